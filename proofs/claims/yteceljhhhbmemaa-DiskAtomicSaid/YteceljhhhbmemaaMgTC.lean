/- Texts in one: DsLw2, DsLw3, DsPla, DsLw4, DsLw5, DsMth, DsMay, DsMyI. -/
import Derived.Test.YteceljhhhbmemaaMgTB
import Derived.Laws.BytesArg
import Derived.Laws.IdiomStrings
set_option linter.unusedVariables false
set_option linter.unusedSimpArgs false
/- The law Fails. Bounds on sizes alone. -/
namespace Go.Proofs.Yteceljhhhbmemaa
open Go.RowKit
set_option maxRecDepth 100000
set_option maxHeartbeats 6400000

theorem stepF_go {M : DM} (h1 : M.off = false) (h2 : 0 < M.cnt) : stepF M = (true, { M with cnt := M.cnt - 1 }) := by
  rw [stepF, if_neg (by rw [h1]; simp; omega), if_pos h2]
theorem stepF_free {M : DM} (h1 : M.off = false) (h2 : M.cnt < 0) : stepF M = (true, M) := by
  rw [stepF, if_neg (by rw [h1]; simp; omega), if_neg (by omega)]
theorem stepF_no {M : DM} (h : M.off = true ∨ M.cnt = 0) : stepF M = (false, { M with off := true }) := by
  rw [stepF, if_pos h]
/-- Behind i operations of which k succeed. -/
def FInv (k : Int) (i : Nat) (M : DM) : Prop := M.sz = 16 ∧ M.secs.length = 3 ∧ M.cache.length ≤ i ∧ ((i : Int) ≤ k → M.off = false ∧ M.cnt = k - i) ∧ (k < (i : Int) → M.off = true)
def okI (k : Int) (i : Nat) : Int := if (i : Int) < k then 0 else 8
theorem finv_write {k : Int} {i : Nat} {M : DM} (h : FInv k i M) {s : Nat} (hs : s < 3) {l : List Int} (hl : l.length = 16) : FInv k (i + 1) (writeF M s l).2 ∧ (writeF M s l).1 = okI k i := by
  obtain ⟨h1, h2, h3, h4, h5⟩ := h
  have hf : M.fits s = true := by simp only [DM.fits, decide_eq_true_eq, h2]; omega
  have hn : ¬(M.fits s = false ∨ l.length ≠ M.sz) := by rw [hf, hl, h1]; simp
  unfold writeF
  rw [if_neg hn]
  by_cases hi : (i : Int) < k
  · obtain ⟨q1, q2⟩ := h4 (by omega)
    rw [stepF_go q1 (by omega)]
    refine ⟨⟨h1, h2, ?_, fun _ => ⟨q1, ?_⟩, fun h => by omega⟩, ?_⟩
    · show (M.cache ++ [_]).length ≤ i + 1
      simp; omega
    · show M.cnt - 1 = k - ((i + 1 : Nat) : Int)
      omega
    · rw [okI, if_pos hi]; rfl
  · have hno : M.off = true ∨ M.cnt = 0 := by
      by_cases e : (i : Int) ≤ k
      · exact Or.inr (by have := (h4 e).2; omega)
      · exact Or.inl (h5 (by omega))
    rw [stepF_no hno]
    exact ⟨⟨h1, h2, by show M.cache.length ≤ i + 1; omega, fun h => by omega, fun _ => rfl⟩, by rw [okI, if_neg hi]; rfl⟩
theorem finv_sync {k : Int} {i : Nat} {M : DM} (h : FInv k i M) : FInv k (i + 1) (syncF M).2 ∧ (syncF M).1 = okI k i := by
  obtain ⟨h1, h2, h3, h4, h5⟩ := h
  unfold syncF
  by_cases hi : (i : Int) < k
  · obtain ⟨q1, q2⟩ := h4 (by omega)
    rw [stepF_go q1 (by omega)]
    refine ⟨⟨h1, ?_, ?_, fun _ => ⟨q1, ?_⟩, fun h => by omega⟩, ?_⟩
    · show (putF M.secs M.cache).length = 3
      rw [putF_len]; exact h2
    · show 0 ≤ i + 1
      omega
    · show M.cnt - 1 = k - ((i + 1 : Nat) : Int)
      omega
    · rw [okI, if_pos hi]; rfl
  · have hno : M.off = true ∨ M.cnt = 0 := by
      by_cases e : (i : Int) ≤ k
      · exact Or.inr (by have := (h4 e).2; omega)
      · exact Or.inl (h5 (by omega))
    rw [stepF_no hno]
    exact ⟨⟨h1, h2, by show M.cache.length ≤ i + 1; omega, fun h => by omega, fun _ => rfl⟩, by rw [okI, if_neg hi]; rfl⟩
theorem finv_off {k : Int} {i : Nat} {M : DM} (h : FInv k (i + 1) M) : M.off = decide (okI k i ≠ 0) ∧ (readF M 0).2 = okI k i ∧ ∀ l, writeF M 3 l = (1, M) := by
  obtain ⟨h1, h2, h3, h4, h5⟩ := h
  have hf : M.fits 0 = true := by simp only [DM.fits, decide_eq_true_eq, h2]; omega
  have h3f : M.fits 3 = false := by simp only [DM.fits, decide_eq_false_iff_not, h2]; omega
  have hw : ∀ l, writeF M 3 l = (1, M) := fun l => by rw [writeF, if_pos (Or.inl h3f)]
  by_cases hi : (i : Int) < k
  · obtain ⟨q1, _⟩ := h4 (by omega)
    have e : okI k i = 0 := by rw [okI, if_pos hi]
    exact ⟨by rw [q1, e]; decide, by rw [readF, hf, q1, e]; rfl, hw⟩
  · have q1 := h5 (by omega)
    have e : okI k i = 8 := by rw [okI, if_neg hi]
    exact ⟨by rw [q1, e]; decide, by rw [readF, hf, q1, e]; rfl, hw⟩
theorem finv_start (n : Int) : FInv (max n 0) 0 (failF (newF 3 16) n) :=
  ⟨rfl, rfl, Nat.le_refl _, fun _ => ⟨rfl, by show max n 0 = max n 0 - ((0 : Nat) : Int); omega⟩, fun h => absurd h (by omega)⟩
/-- Behind the crash: writes that all succeed. -/
def GInv (j : Nat) (M : DM) : Prop := M.sz = 16 ∧ M.secs.length = 3 ∧ M.cache.length = j ∧ M.off = false ∧ M.cnt = -1
theorem ginv_start {k : Int} {i : Nat} {M : DM} (h : FInv k i M) : GInv 0 (crashF M []) := ⟨h.1, by show (keepF _ _ _ _).length = 3; rw [keepF_len]; exact h.2.1, rfl, rfl, rfl⟩
theorem ginv_write {j : Nat} {M : DM} (h : GInv j M) {l : List Int} (hl : l.length = 16) : GInv (j + 1) (writeF M 0 l).2 ∧ (writeF M 0 l).1 = 0 := by
  obtain ⟨h1, h2, h3, h4, h5⟩ := h
  have hf : M.fits 0 = true := by simp only [DM.fits, decide_eq_true_eq, h2]; omega
  rw [writeF, if_neg (by rw [hf, hl, h1]; simp), stepF_free h4 (by omega)]
  refine ⟨⟨h1, h2, ?_, h4, h5⟩, rfl⟩
  show (M.cache ++ [_]).length = j + 1
  simp [h3]
theorem fails_law (I : PI) (n : Int) (a : Option Addr) (len cap : Nat) (l : List Bool) (w : World) (w0 : (Lit.int .i64 n).wf = true) (w1 : Rd w (.slice a len cap) (bls l)) : Calls Try.prog 7 #[.int .i64 n, .slice a len cap] w (BoP true w) := by
  have rn := wf_d64 w0
  clear w0
  have AW := hid_of (fun w => awake_any I w)
  by_cases h30 : n > 30
  · have d0 : decide (n > 30) = true := by simpa using h30
    have d0' : decide (30 < n) = true := by simpa using h30
    clear h30 rn w1
    go_enter Try.func7, Try.ntmps7
    go_wp2_with (go_at_call 9; ((with_reducible refine (AW.out _).mono ?_); (rintro e w1 ⟨rfl, h1⟩); (have E1 := hid_of h1); clear h1))
    go_ret
    exact ⟨rfl, E1.out⟩
  have d0 : decide (n > 30) = false := by simpa using h30
  have d0' : decide (30 < n) = false := by simpa using h30
  have HR := hid_of (fun (X : World) (h : Below w.heap.size w X) => w1.at h)
  have HL : Hid (l.length = len) := hid_of (by have := (rd_cut w1).1; rw [bls_length] at this; exact this.symm)
  have hlc := (rd_cut w1).2
  obtain ⟨k, hk⟩ : ∃ k, k = max n 0 := ⟨_, rfl⟩
  have hkn : ∀ i : Nat, (i : Int) < n ↔ (i : Int) < k := fun i => by omega
  have HKN := hid_of hkn
  have CN : Hid (∀ X, Calls Try.prog 11 #[.int .i64 3, .int .i64 16] X fun e w' => ∃ b, e = .returned (.tuple #[.pointer (some ⟨b, 0, none⟩), .int .i64 0]) ∧ Lv I X.heap.size w'.heap.size w' b (newF 3 16) ∧ Below X.heap.size X w') := hid_of (fun X => (I.newY 3 16 (by omega) (by omega) (by omega) (by omega) X).mono fun e w' ⟨b, q1, q2, q3⟩ => ⟨b, q1, ⟨_, q2, fun k hk => hk⟩, q3⟩)
  have CB := hid_of (fun c X => block_any c X)
  have CF : Hid (∀ B c b X, Lv I B c X b (newF 3 16) → B ≤ X.heap.size → Calls Try.prog 24 #[.pointer (some ⟨b, 0, none⟩), .int .i64 n] X fun e w' => e = .returned (.tuple #[]) ∧ Lv I B w'.heap.size w' b (failF (newF 3 16) n) ∧ Below B X w') := hid_of (fun B c b X h hB => h.fail hB n rn)
  have HS := hid_of (show FInv k 0 (failF (newF 3 16) n) by rw [hk]; exact finv_start n)
  clear h30 rn w1 hk hkn
  go_enter Try.func7, Try.ntmps7
  go_wp2_with (first
    | (go_at_call 9; ((with_reducible refine (AW.out _).mono ?_); (rintro e w1 ⟨rfl, h1⟩); (have E1 := hid_of h1); clear h1))
    | (go_at_call 11; ((with_reducible refine (CN.out w1).mono ?_); (rintro e w2 ⟨b, rfl, q1, q2⟩)); have L2 := hid_of q1; have E2 := hid_of q2; clear q1 q2)
    | (go_at_call 24; ((with_reducible refine (CF.out _ _ _ w2 L2.out E2.out.size).mono ?_); (rintro e w3 ⟨rfl, q1, q2⟩)); have L3 := hid_of q1; have E3 := hid_of (E2.out.trans q2); clear q1 q2))
  go_loopw [7, 8, 9, 10] (fun iv v8 v9 v10 wr => ∃ (i : Nat) (M : DM), i ≤ 40 ∧ iv = .int .i64 i ∧ Hid (FInv k i M) ∧ Hid (Lv I w1.heap.size wr.heap.size wr b M) ∧ Hid (Below w1.heap.size w1 wr)) (fun iv _ _ _ _ => 40 - (intOf iv).toNat)
  case atStart => exact ⟨0, _, by omega, rfl, HS, L3, E3⟩
  case round =>
    obtain ⟨i, M, hi, rfl, hF, hL, hE⟩ := hrel
    by_cases hlt : i < 40
    · have hdd : decide (i < 40) = true := by simpa using hlt
      have hdi : decide ((i : Int) < 40) = true := by simp; omega
      have HF2 : Hid (∀ X c, Lv I w1.heap.size c X b M → w1.heap.size ≤ X.heap.size → Calls Try.prog 23 #[.pointer (some ⟨b, 0, none⟩)] X fun e w' => ∃ M1, (e = .returned (.int .i64 (okI k i)) ∧ FInv k (i + 1) M1) ∧ Lv I w1.heap.size w'.heap.size w' b M1 ∧ Below w1.heap.size X w') := hid_of (fun X c h hB => (h.sync hB (by have := hF.out.2.2.1; omega)).mono fun e w' ⟨q1, q2, q3⟩ => ⟨_, ⟨by rw [q1, (finv_sync hF.out).2], (finv_sync hF.out).1⟩, q2, q3⟩)
      obtain ⟨r, hr⟩ : ∃ r, r = i % 3 := ⟨_, rfl⟩
      have hrm : (i : Int).tmod 3 = (r : Int) := by rw [Int.tmod_eq_emod_of_nonneg (by omega)]; omega
      have HW2 : Hid (∀ X c g, Lv I w1.heap.size c X b M → w1.heap.size ≤ X.heap.size → CR (fun q => c ≤ q) X (.slice (some ⟨g, 0, none⟩) 16 16) (blk 1) → Calls Try.prog 22 #[.pointer (some ⟨b, 0, none⟩), .int .i64 r, .slice (some ⟨g, 0, none⟩) 16 16] X fun e w' => ∃ M1, (e = .returned (.int .i64 (okI k i)) ∧ FInv k (i + 1) M1) ∧ Lv I w1.heap.size w'.heap.size w' b M1 ∧ Below w1.heap.size X w') := hid_of (fun X c g h hB hi2 => (h.write hB r ⟨by omega, by omega⟩ (by have := hF.out.2.2.1; omega) (hi2.mono fun q hq => Or.inr hq)).mono fun e w' ⟨q1, q2, q3⟩ => ⟨_, ⟨by rw [q1, (finv_write hF.out (s := r) (by omega) (l := blk 1) rfl).2], (finv_write hF.out (s := r) (by omega) (l := blk 1) rfl).1⟩, q2, q3⟩)
      have CQ : Hid (∀ M1 X c, FInv k (i + 1) M1 → Lv I w1.heap.size c X b M1 → Calls Try.prog 19 #[.pointer (some ⟨b, 0, none⟩), .int .i64 0] X fun e w' => ∃ x n c, e = .returned (.tuple #[.slice x n c, .int .i64 (okI k i)]) ∧ Below X.heap.size X w') := hid_of (fun M1 X c hf ⟨S, h1, h2⟩ => (I.read 0 r64_0 (by have := hf.2.2.1; omega) h1).mono fun e w' ⟨⟨x, n, c, q1, _, q3⟩, _⟩ => ⟨x, n, c, by rw [q1, (finv_off hf).2.1], q3⟩)
      have CD : Hid (∀ M1 X c, FInv k (i + 1) M1 → Lv I w1.heap.size c X b M1 → Calls Try.prog 17 #[.pointer (some ⟨b, 0, none⟩)] X fun e w' => e = .returned (.bool (decide (okI k i ≠ 0))) ∧ Below X.heap.size X w') := hid_of (fun M1 X c hf ⟨S, h1, h2⟩ => (I.down h1).mono fun e w' ⟨q1, q3⟩ => ⟨by rw [q1, (finv_off hf).1], q3⟩)
      have CW : Hid (∀ M1 X c g, FInv k (i + 1) M1 → Lv I w1.heap.size c X b M1 → w1.heap.size ≤ X.heap.size → CR (fun q => c ≤ q) X (.slice (some ⟨g, 0, none⟩) 16 16) (blk 1) → Calls Try.prog 22 #[.pointer (some ⟨b, 0, none⟩), .int .i64 3, .slice (some ⟨g, 0, none⟩) 16 16] X fun e w' => e = .returned (.int .i64 1) ∧ Lv I w1.heap.size w'.heap.size w' b M1 ∧ Below w1.heap.size X w') := hid_of (fun M1 X c g hf h hB hi2 => (h.write hB 3 ⟨by omega, by omega⟩ (by have := hf.2.2.1; omega) (hi2.mono fun q hq => Or.inr hq)).mono fun e w' ⟨q1, q2, q3⟩ => ⟨by rw [q1, (finv_off hf).2.2], by rw [(finv_off hf).2.2] at q2; exact q2, q3⟩)
      have HRI := hid_of (HR.out wr (E1.out.trans (hE.out.mono E1.out.size)))
      clear hr
      by_cases hin : (i : Int) < n
      · have HO : okI k i = 0 := by rw [okI, if_pos ((HKN.out i).1 hin)]
        have dn : decide ((i : Int) < n) = true := by simpa using hin
        rw [HO] at HF2 HW2 CQ CD
        have e8 : decide ((0 : Int) ≠ 0) = false := by decide
        rw [e8] at CD
        by_cases hil : i < len
        · have dl : decide (i < len) = true := by simpa using hil
          obtain ⟨kb, hkb⟩ : ∃ kb, l[i]? = some kb := ⟨_, List.getElem?_eq_getElem (by have := HL.out; omega)⟩
          obtain ⟨gk, ok, rfl, kk⟩ := rd_at HRI.out (i := i) (t := .bool kb) (by rw [bls, List.getElem?_map, hkb]; rfl)
          clear hkb
          cases kb with
          | true =>
            go_wp2_with (first
              | (go_at_call 23; ((with_reducible refine (HF2.out wr _ hL.out hE.out.size).mono ?_); (rintro e w5 ⟨M1, ⟨rfl, q0⟩, q1, q2⟩)); have F5 := hid_of q0; have L5 := hid_of q1; have E5 := hid_of (hE.out.trans q2); clear q0 q1 q2)
              | (go_at_call 19; ((with_reducible refine (CQ.out _ w5 _ F5.out L5.out).mono ?_); (rintro e w6 ⟨x6, n6, c6, rfl, q1⟩)); have L6 := hid_of (L5.out.bel q1); have E6 := hid_of (E5.out.trans (q1.mono E5.out.size)); have HC6 := hid_of q1.size; clear q1)
              | (go_at_call 17; ((with_reducible refine (CD.out _ w6 _ F5.out L6.out).mono ?_); (rintro e w7 ⟨rfl, q1⟩)); have L7 := hid_of (L6.out.bel (q1.mono HC6.out)); have E7 := hid_of (E6.out.trans (q1.mono E6.out.size)); have HC7 := hid_of (Nat.le_trans HC6.out q1.size); clear q1)
              | (go_at_call 26; ((with_reducible refine (CB.out 1 w7).mono ?_); (rintro e w8 ⟨g8, rfl, q1, q2⟩)); have G8 := hid_of (q1.mono fun q hq => Nat.le_trans HC7.out hq); have L8 := hid_of (L7.out.bel (q2.mono HC7.out)); have E8 := hid_of (E7.out.trans (q2.mono E7.out.size)); clear q1 q2)
              | (go_at_call 22; ((with_reducible refine (CW.out _ w8 _ _ F5.out L8.out E8.out.size G8.out).mono ?_); (rintro e w9 ⟨rfl, q1, q2⟩)); have L9 := hid_of q1; have E9 := hid_of (E8.out.trans q2); clear q1 q2))
            go_roundw
            case rel => exact ⟨i + 1, _, by omega, by go_num, F5, L9, E9⟩
            case measure => simp [intOf]; omega
          | false =>
            go_wp2_with (first
              | (go_at_call 26; ((with_reducible refine (CB.out 1 wr).mono ?_); (rintro e w4 ⟨g4, rfl, q1, q2⟩)); have G4 := hid_of q1; have L4 := hid_of (hL.out.bel q2); have E4 := hid_of (hE.out.trans (q2.mono hE.out.size)); clear q1 q2)
              | (go_at_call 22; ((with_reducible refine (HW2.out w4 _ _ L4.out E4.out.size G4.out).mono ?_); (rintro e w5 ⟨M1, ⟨rfl, q0⟩, q1, q2⟩)); have F5 := hid_of q0; have L5 := hid_of q1; have E5 := hid_of (E4.out.trans q2); clear q0 q1 q2)
              | (go_at_call 19; ((with_reducible refine (CQ.out _ w5 _ F5.out L5.out).mono ?_); (rintro e w6 ⟨x6, n6, c6, rfl, q1⟩)); have L6 := hid_of (L5.out.bel q1); have E6 := hid_of (E5.out.trans (q1.mono E5.out.size)); have HC6 := hid_of q1.size; clear q1)
              | (go_at_call 17; ((with_reducible refine (CD.out _ w6 _ F5.out L6.out).mono ?_); (rintro e w7 ⟨rfl, q1⟩)); have L7 := hid_of (L6.out.bel (q1.mono HC6.out)); have E7 := hid_of (E6.out.trans (q1.mono E6.out.size)); have HC7 := hid_of (Nat.le_trans HC6.out q1.size); clear q1)
              | (go_at_call 26; ((with_reducible refine (CB.out 1 w7).mono ?_); (rintro e w8 ⟨g8, rfl, q1, q2⟩)); have G8 := hid_of (q1.mono fun q hq => Nat.le_trans HC7.out hq); have L8 := hid_of (L7.out.bel (q2.mono HC7.out)); have E8 := hid_of (E7.out.trans (q2.mono E7.out.size)); clear q1 q2)
              | (go_at_call 22; ((with_reducible refine (CW.out _ w8 _ _ F5.out L8.out E8.out.size G8.out).mono ?_); (rintro e w9 ⟨rfl, q1, q2⟩)); have L9 := hid_of q1; have E9 := hid_of (E8.out.trans q2); clear q1 q2))
            go_roundw
            case rel => exact ⟨i + 1, _, by omega, by go_num, F5, L9, E9⟩
            case measure => simp [intOf]; omega
        · have dl : decide (i < len) = false := by simpa using hil
          go_wp2_with (first
            | (go_at_call 26; ((with_reducible refine (CB.out 1 wr).mono ?_); (rintro e w4 ⟨g4, rfl, q1, q2⟩)); have G4 := hid_of q1; have L4 := hid_of (hL.out.bel q2); have E4 := hid_of (hE.out.trans (q2.mono hE.out.size)); clear q1 q2)
            | (go_at_call 22; ((with_reducible refine (HW2.out w4 _ _ L4.out E4.out.size G4.out).mono ?_); (rintro e w5 ⟨M1, ⟨rfl, q0⟩, q1, q2⟩)); have F5 := hid_of q0; have L5 := hid_of q1; have E5 := hid_of (E4.out.trans q2); clear q0 q1 q2)
            | (go_at_call 19; ((with_reducible refine (CQ.out _ w5 _ F5.out L5.out).mono ?_); (rintro e w6 ⟨x6, n6, c6, rfl, q1⟩)); have L6 := hid_of (L5.out.bel q1); have E6 := hid_of (E5.out.trans (q1.mono E5.out.size)); have HC6 := hid_of q1.size; clear q1)
            | (go_at_call 17; ((with_reducible refine (CD.out _ w6 _ F5.out L6.out).mono ?_); (rintro e w7 ⟨rfl, q1⟩)); have L7 := hid_of (L6.out.bel (q1.mono HC6.out)); have E7 := hid_of (E6.out.trans (q1.mono E6.out.size)); have HC7 := hid_of (Nat.le_trans HC6.out q1.size); clear q1)
            | (go_at_call 26; ((with_reducible refine (CB.out 1 w7).mono ?_); (rintro e w8 ⟨g8, rfl, q1, q2⟩)); have G8 := hid_of (q1.mono fun q hq => Nat.le_trans HC7.out hq); have L8 := hid_of (L7.out.bel (q2.mono HC7.out)); have E8 := hid_of (E7.out.trans (q2.mono E7.out.size)); clear q1 q2)
            | (go_at_call 22; ((with_reducible refine (CW.out _ w8 _ _ F5.out L8.out E8.out.size G8.out).mono ?_); (rintro e w9 ⟨rfl, q1, q2⟩)); have L9 := hid_of q1; have E9 := hid_of (E8.out.trans q2); clear q1 q2))
          go_roundw
          case rel => exact ⟨i + 1, _, by omega, by go_num, F5, L9, E9⟩
          case measure => simp [intOf]; omega
      · have HO : okI k i = 8 := by rw [okI, if_neg (fun h => hin ((HKN.out i).2 h))]
        have dn : decide ((i : Int) < n) = false := by simpa using hin
        rw [HO] at HF2 HW2 CQ CD
        have e8 : decide ((8 : Int) ≠ 0) = true := by decide
        rw [e8] at CD
        by_cases hil : i < len
        · have dl : decide (i < len) = true := by simpa using hil
          obtain ⟨kb, hkb⟩ : ∃ kb, l[i]? = some kb := ⟨_, List.getElem?_eq_getElem (by have := HL.out; omega)⟩
          obtain ⟨gk, ok, rfl, kk⟩ := rd_at HRI.out (i := i) (t := .bool kb) (by rw [bls, List.getElem?_map, hkb]; rfl)
          clear hkb
          cases kb with
          | true =>
            go_wp2_with (first
              | (go_at_call 23; ((with_reducible refine (HF2.out wr _ hL.out hE.out.size).mono ?_); (rintro e w5 ⟨M1, ⟨rfl, q0⟩, q1, q2⟩)); have F5 := hid_of q0; have L5 := hid_of q1; have E5 := hid_of (hE.out.trans q2); clear q0 q1 q2)
              | (go_at_call 19; ((with_reducible refine (CQ.out _ w5 _ F5.out L5.out).mono ?_); (rintro e w6 ⟨x6, n6, c6, rfl, q1⟩)); have L6 := hid_of (L5.out.bel q1); have E6 := hid_of (E5.out.trans (q1.mono E5.out.size)); have HC6 := hid_of q1.size; clear q1)
              | (go_at_call 17; ((with_reducible refine (CD.out _ w6 _ F5.out L6.out).mono ?_); (rintro e w7 ⟨rfl, q1⟩)); have L7 := hid_of (L6.out.bel (q1.mono HC6.out)); have E7 := hid_of (E6.out.trans (q1.mono E6.out.size)); have HC7 := hid_of (Nat.le_trans HC6.out q1.size); clear q1)
              | (go_at_call 26; ((with_reducible refine (CB.out 1 w7).mono ?_); (rintro e w8 ⟨g8, rfl, q1, q2⟩)); have G8 := hid_of (q1.mono fun q hq => Nat.le_trans HC7.out hq); have L8 := hid_of (L7.out.bel (q2.mono HC7.out)); have E8 := hid_of (E7.out.trans (q2.mono E7.out.size)); clear q1 q2)
              | (go_at_call 22; ((with_reducible refine (CW.out _ w8 _ _ F5.out L8.out E8.out.size G8.out).mono ?_); (rintro e w9 ⟨rfl, q1, q2⟩)); have L9 := hid_of q1; have E9 := hid_of (E8.out.trans q2); clear q1 q2))
            go_roundw
            case rel => exact ⟨i + 1, _, by omega, by go_num, F5, L9, E9⟩
            case measure => simp [intOf]; omega
          | false =>
            go_wp2_with (first
              | (go_at_call 26; ((with_reducible refine (CB.out 1 wr).mono ?_); (rintro e w4 ⟨g4, rfl, q1, q2⟩)); have G4 := hid_of q1; have L4 := hid_of (hL.out.bel q2); have E4 := hid_of (hE.out.trans (q2.mono hE.out.size)); clear q1 q2)
              | (go_at_call 22; ((with_reducible refine (HW2.out w4 _ _ L4.out E4.out.size G4.out).mono ?_); (rintro e w5 ⟨M1, ⟨rfl, q0⟩, q1, q2⟩)); have F5 := hid_of q0; have L5 := hid_of q1; have E5 := hid_of (E4.out.trans q2); clear q0 q1 q2)
              | (go_at_call 19; ((with_reducible refine (CQ.out _ w5 _ F5.out L5.out).mono ?_); (rintro e w6 ⟨x6, n6, c6, rfl, q1⟩)); have L6 := hid_of (L5.out.bel q1); have E6 := hid_of (E5.out.trans (q1.mono E5.out.size)); have HC6 := hid_of q1.size; clear q1)
              | (go_at_call 17; ((with_reducible refine (CD.out _ w6 _ F5.out L6.out).mono ?_); (rintro e w7 ⟨rfl, q1⟩)); have L7 := hid_of (L6.out.bel (q1.mono HC6.out)); have E7 := hid_of (E6.out.trans (q1.mono E6.out.size)); have HC7 := hid_of (Nat.le_trans HC6.out q1.size); clear q1)
              | (go_at_call 26; ((with_reducible refine (CB.out 1 w7).mono ?_); (rintro e w8 ⟨g8, rfl, q1, q2⟩)); have G8 := hid_of (q1.mono fun q hq => Nat.le_trans HC7.out hq); have L8 := hid_of (L7.out.bel (q2.mono HC7.out)); have E8 := hid_of (E7.out.trans (q2.mono E7.out.size)); clear q1 q2)
              | (go_at_call 22; ((with_reducible refine (CW.out _ w8 _ _ F5.out L8.out E8.out.size G8.out).mono ?_); (rintro e w9 ⟨rfl, q1, q2⟩)); have L9 := hid_of q1; have E9 := hid_of (E8.out.trans q2); clear q1 q2))
            go_roundw
            case rel => exact ⟨i + 1, _, by omega, by go_num, F5, L9, E9⟩
            case measure => simp [intOf]; omega
        · have dl : decide (i < len) = false := by simpa using hil
          go_wp2_with (first
            | (go_at_call 26; ((with_reducible refine (CB.out 1 wr).mono ?_); (rintro e w4 ⟨g4, rfl, q1, q2⟩)); have G4 := hid_of q1; have L4 := hid_of (hL.out.bel q2); have E4 := hid_of (hE.out.trans (q2.mono hE.out.size)); clear q1 q2)
            | (go_at_call 22; ((with_reducible refine (HW2.out w4 _ _ L4.out E4.out.size G4.out).mono ?_); (rintro e w5 ⟨M1, ⟨rfl, q0⟩, q1, q2⟩)); have F5 := hid_of q0; have L5 := hid_of q1; have E5 := hid_of (E4.out.trans q2); clear q0 q1 q2)
            | (go_at_call 19; ((with_reducible refine (CQ.out _ w5 _ F5.out L5.out).mono ?_); (rintro e w6 ⟨x6, n6, c6, rfl, q1⟩)); have L6 := hid_of (L5.out.bel q1); have E6 := hid_of (E5.out.trans (q1.mono E5.out.size)); have HC6 := hid_of q1.size; clear q1)
            | (go_at_call 17; ((with_reducible refine (CD.out _ w6 _ F5.out L6.out).mono ?_); (rintro e w7 ⟨rfl, q1⟩)); have L7 := hid_of (L6.out.bel (q1.mono HC6.out)); have E7 := hid_of (E6.out.trans (q1.mono E6.out.size)); have HC7 := hid_of (Nat.le_trans HC6.out q1.size); clear q1)
            | (go_at_call 26; ((with_reducible refine (CB.out 1 w7).mono ?_); (rintro e w8 ⟨g8, rfl, q1, q2⟩)); have G8 := hid_of (q1.mono fun q hq => Nat.le_trans HC7.out hq); have L8 := hid_of (L7.out.bel (q2.mono HC7.out)); have E8 := hid_of (E7.out.trans (q2.mono E7.out.size)); clear q1 q2)
            | (go_at_call 22; ((with_reducible refine (CW.out _ w8 _ _ F5.out L8.out E8.out.size G8.out).mono ?_); (rintro e w9 ⟨rfl, q1, q2⟩)); have L9 := hid_of q1; have E9 := hid_of (E8.out.trans q2); clear q1 q2))
          go_roundw
          case rel => exact ⟨i + 1, _, by omega, by go_num, F5, L9, E9⟩
          case measure => simp [intOf]; omega
    · obtain rfl : i = 40 := by omega
      have HG := hid_of (ginv_start hF.out)
      have CK : Hid (∀ X c, Lv I w1.heap.size c X b M → w1.heap.size ≤ X.heap.size → Calls Try.prog 25 #[.pointer (some ⟨b, 0, none⟩), .slice none 0 0] X fun e w' => e = .returned (.tuple #[]) ∧ Lv I w1.heap.size w'.heap.size w' b (crashF M []) ∧ Below w1.heap.size X w') := hid_of (fun X c h hB => h.crash hB (keep := []) (by have := hF.out.2.2.1; omega) ⟨⟨none, 0, rfl, Nat.le_refl _, by omega, fun h => by simp [bls] at h⟩, fun h => by simp [bls] at h⟩)
      go_wp2_with (go_at_call 25; ((with_reducible refine (CK.out wr _ hL.out hE.out.size).mono ?_); (rintro e w4 ⟨rfl, q1, q2⟩)); have L4 := hid_of q1; have E4 := hid_of (hE.out.trans q2); clear q1 q2)
      go_loopw [11] (fun iv wr => ∃ (j : Nat) (M : DM), j ≤ 40 ∧ iv = .int .i64 j ∧ Hid (GInv j M) ∧ Hid (Lv I w1.heap.size wr.heap.size wr b M) ∧ Hid (Below w1.heap.size w1 wr)) (fun iv _ => 40 - (intOf iv).toNat)
      case atStart => exact ⟨0, _, by omega, rfl, HG, L4, E4⟩
      case round =>
        obtain ⟨j, M, hj, rfl, hG, hL, hE⟩ := hrel
        by_cases hlt : j < 40
        · have hdd : decide (j < 40) = true := by simpa using hlt
          have hdi : decide ((j : Int) < 40) = true := by simp; omega
          have CW : Hid (∀ X c g, Lv I w1.heap.size c X b M → w1.heap.size ≤ X.heap.size → CR (fun q => c ≤ q) X (.slice (some ⟨g, 0, none⟩) 16 16) (blk 2) → Calls Try.prog 22 #[.pointer (some ⟨b, 0, none⟩), .int .i64 0, .slice (some ⟨g, 0, none⟩) 16 16] X fun e w' => ∃ M1, (e = .returned (.int .i64 0) ∧ GInv (j + 1) M1) ∧ Lv I w1.heap.size w'.heap.size w' b M1 ∧ Below w1.heap.size X w') := hid_of (fun X c g h hB hi2 => (h.write hB 0 r64_0 (by have := hG.out.2.2.1; omega) (hi2.mono fun q hq => Or.inr hq)).mono fun e w' ⟨q1, q2, q3⟩ => ⟨_, ⟨by rw [q1, (ginv_write hG.out (l := blk 2) rfl).2], (ginv_write hG.out (l := blk 2) rfl).1⟩, q2, q3⟩)
          go_wp2_with (first
            | (go_at_call 26; ((with_reducible refine (CB.out 2 wr).mono ?_); (rintro e w4 ⟨g4, rfl, q1, q2⟩)); have G4 := hid_of q1; have L4 := hid_of (hL.out.bel q2); have E4 := hid_of (hE.out.trans (q2.mono hE.out.size)); clear q1 q2)
            | (go_at_call 22; ((with_reducible refine (CW.out w4 _ _ L4.out E4.out.size G4.out).mono ?_); (rintro e w5 ⟨M1, ⟨rfl, q0⟩, q1, q2⟩)); have G5 := hid_of q0; have L5 := hid_of q1; have E5 := hid_of (E4.out.trans q2); clear q0 q1 q2))
          go_roundw
          case rel => exact ⟨j + 1, _, by omega, by go_num, G5, L5, E5⟩
          case measure => simp [intOf]; omega
        · obtain rfl : j = 40 := by omega
          have CC : Hid (∀ X c, Lv I w1.heap.size c X b M → Calls Try.prog 18 #[.pointer (some ⟨b, 0, none⟩)] X fun e w' => e = .returned (.int .i64 40) ∧ Below X.heap.size X w') := hid_of (fun X c ⟨S, h1, h2⟩ => (I.cached h1).mono fun e w' ⟨q1, q3⟩ => ⟨by rw [q1, hG.out.2.2.1]; rfl, q3⟩)
          go_wp2_with (go_at_call 18; ((with_reducible refine (CC.out wr _ hL.out).mono ?_); (rintro e w5 ⟨rfl, q1⟩)); have E5 := hid_of (hE.out.trans (q1.mono hE.out.size)); clear q1)
          go_ret
          exact ⟨rfl, E1.out.trans (E5.out.mono E1.out.size)⟩
end Go.Proofs.Yteceljhhhbmemaa

/- The law Memory. Bounds on sizes alone. -/
namespace Go.Proofs.Yteceljhhhbmemaa
open Go.RowKit
set_option maxRecDepth 100000
set_option maxHeartbeats 6400000

theorem run_strD {P : Program} (w : World) (src dst e : TypeId) (hs : P.underlying src = some (.slice e)) (he : P.underlying e = some (.int .u8)) (hd : P.underlying dst = some .string) (ao : Option Addr) (l : List Int) (cap : Nat)
    (hpos : 0 < l.length → ∃ ad, ao = some ad ∧ ∀ j v, (by8 l)[j]? = some v → w.cell? (ad.add j) = some v) :
    (convert src dst (.slice ao l.length cap)).run P w = .ok (.string (strOfNums l)) w := by
  cases ao with
  | none =>
    obtain rfl : l = [] := by
      cases l with
      | nil => rfl
      | cons x r => obtain ⟨ad, h, _⟩ := hpos (by simp); cases h
    exact run_convert_bytes_nil w src e hs he 0 cap dst hd
  | some ad =>
    have hl : (loadCells ad l.length).run P w = .ok (l.map (Value.int .u8)).toArray w := by
      have := run_loadCells_list (P := P) w ad (by8 l) (fun j v hj => by
        have h0 : 0 < l.length := by
          have := (List.getElem?_eq_some_iff.1 hj).1
          simp [by8] at this; omega
        obtain ⟨ad', h1, h2⟩ := hpos h0
        cases h1
        exact h2 j v hj)
      simpa [by8] using this
    rw [run_convert_bytes_string w src dst e _ l.length cap hs he hd, run_bytesToString w _ l.length cap l hl, foldl_push_bytes]
    simp [strOfNums, ByteArray.empty, ByteArray.emptyWithCapacity]
    rfl
def strD (l : List Int) : ByteArray := strOfNums l
theorem conv_by8 {W : World} {a : Option Addr} {n c : Nat} {L : List Int} (h : Rd W (.slice a n c) (by8 L)) : (convert 32 9 (.slice a n c)).run Try.prog W = .ok (.string (strD L)) W := by
  obtain ⟨ao, cap, e, h2, h3, h4⟩ := h
  simp only [Value.slice.injEq] at e
  obtain ⟨rfl, rfl, rfl⟩ := e
  rw [by8_length] at h4 ⊢
  refine run_strD W 32 9 5 Try.underlying32 Try.underlying5 Try.underlying9 a L c fun h0 => ?_
  obtain ⟨g, o, rfl, hg, hc⟩ := h4 h0
  refine ⟨_, rfl, fun j v hv => ?_⟩
  rw [Addr.add_mid]
  exact hc j v hv
theorem mem_math {n : Nat} {l : List Int} (hl : l.length = n) : (writeF (newF 2 n) 1 l).1 = 0 ∧ (writeF (newF 2 n) 1 l).2 = { newF 2 n with cache := [(1, l)] } ∧ readF { newF 2 n with cache := [(1, l)] } 1 = (l, 0) ∧ syncF { newF 2 n with cache := [(1, l)] } = (0, { newF 2 n with secs := [List.replicate n 0, l] }) ∧ readF { newF 2 n with secs := [List.replicate n 0, l] } 1 = (l, 0) := by
  have hf : (newF 2 n).fits 1 = true := rfl
  refine ⟨?_, ?_, rfl, rfl, rfl⟩
  · rw [writeF, if_neg (by rw [hf, hl]; simp [newF])]
    rfl
  · rw [writeF, if_neg (by rw [hf, hl]; simp [newF])]
    rfl
/-- A row of bytes of the call's own, whatever they are. -/
def BRow (B : Nat) (W : World) (g n cap : Nat) : Prop := ∃ zs : List Int, W.ownsRow B 5 1 (.slice (some ⟨g, 0, none⟩) n cap) n (by8 zs)
theorem BRow.get {B : Nat} {W : World} {g n cap : Nat} (h : BRow B W g n cap) (hn : n ≤ 4096) {i : Nat} (hi : i < n) : n ≤ cap ∧ cap ≤ 9223372036854775807 ∧ ∃ x : Int, W.cell? ⟨g, i, none⟩ = some (.int .u8 x) ∧ W.frozen? ⟨g, i, none⟩ = false ∧ ∀ y : Int, BRow B (W.setCell ⟨g, i, none⟩ (.int .u8 y)) g n cap := by
  obtain ⟨zs, h⟩ := h
  have hz : zs.length = n := by have := h.1; simp [by8] at this; omega
  have hrd : Rd W (.slice (some ⟨g, 0, none⟩) n cap) (by8 zs) := (show Ow 5 0 W W (.slice (some ⟨g, 0, none⟩) n cap) (by8 zs) from ⟨Nat.zero_le _, Below.refl _ _, by
    rw [by8_length, hz]
    rcases h.2 with h2 | ⟨g2, c2, cur, q1, q2, q3⟩
    · exact ⟨h.1, .inl h2⟩
    · exact ⟨h.1, .inr ⟨g2, c2, cur, q1, Nat.zero_le _, q3⟩⟩⟩).rd (by rw [by8_length]; omega)
  obtain ⟨x, hx⟩ : ∃ x, zs[i]? = some x := ⟨_, List.getElem?_eq_getElem (by omega)⟩
  obtain ⟨_, _, e, k⟩ := rd_at hrd (i := i) (t := .int .u8 x) (by rw [by8, List.getElem?_map, hx]; rfl)
  cases e
  rw [Nat.zero_add] at k
  obtain ⟨_, e2, _, hf⟩ := own_addr h (by omega)
  cases e2
  refine ⟨(rd_cut hrd).2.1, (rd_cut hrd).2.2, x, k, hf i, fun y => ⟨zs.set i y, ?_⟩⟩
  have := own_set h (j := i) (.int .u8 y)
  rwa [show (by8 zs).set i (.int .u8 y) = by8 (zs.set i y) by simp [by8, List.map_set]] at this
theorem own_copy {w2 w3 : World} {xo : Option Addr} {n1 c1 n : Nat} {l : List Int} (h : Ow 5 w2.heap.size w2 w3 (.slice xo n1 c1) ([] ++ by8 l)) (hn : n1 = ([] : List Value).length + (by8 l).length) (hl : n = l.length) (h1 : 16 ≤ n) (h2 : n ≤ 4096) :
    ∃ g, xo = some ⟨g, 0, none⟩ ∧ n = n1 ∧ w3.ownsRow w2.heap.size 5 1 (.slice (some ⟨g, 0, none⟩) n c1) n (by8 l) ∧ (CR (fun k => w2.heap.size ≤ k ∧ k < w3.heap.size) w3 (.slice (some ⟨g, 0, none⟩) n c1) l ∧ True) := by
  have e : n1 = n := by rw [hn, by8_length]; simp; omega
  subst e
  rw [List.nil_append] at h
  have ho := h.own
  rw [by8_length, ← hl] at ho
  obtain ⟨g, rfl, _, _⟩ := own_addr ho (by omega)
  exact ⟨g, rfl, rfl, ho, ⟨h.rd (by rw [by8_length]; omega), fun _ a n c e => by cases e; exact ho.lt g rfl⟩, trivial⟩
theorem memory_law (I : PI) (a : Option Addr) (len cap : Nat) (zs : List Int) (w : World) (w0 : IsRow .u8 w a len cap zs) : Calls Try.prog 8 #[.slice a len cap] w (BoP true w) := by
  have AW := hid_of (fun w => awake_any I w)
  obtain ⟨l, rfl, _, R⟩ := w0.rd
  have R : Rd w (.slice a l.length cap) (by8 l) := R
  clear w0
  obtain ⟨n, hn⟩ : ∃ n, n = l.length := ⟨_, rfl⟩
  rw [← hn] at R ⊢
  by_cases h16 : n < 16
  · have d0 : decide ((n : Int) < 16) = true := by simp; omega
    have d0' : decide (n < 16) = true := by simpa using h16
    clear R hn h16
    go_enter Try.func8, Try.ntmps8
    go_wp2_with (go_at_call 9; ((with_reducible refine (AW.out _).mono ?_); (rintro e w1 ⟨rfl, h1⟩); (have E1 := hid_of h1); clear h1))
    go_ret
    exact ⟨rfl, E1.out⟩
  have d0 : decide ((n : Int) < 16) = false := by simp; omega
  have d0' : decide (n < 16) = false := by simpa using h16
  by_cases h40 : 4096 < n
  · have d1 : decide ((n : Int) > 4096) = true := by simp; omega
    have d1' : decide (4096 < n) = true := by simpa using h40
    clear R hn h16 h40
    go_enter Try.func8, Try.ntmps8
    go_wp2_with (go_at_call 9; ((with_reducible refine (AW.out _).mono ?_); (rintro e w1 ⟨rfl, h1⟩); (have E1 := hid_of h1); clear h1))
    go_ret
    exact ⟨rfl, E1.out⟩
  have d1 : decide ((n : Int) > 4096) = false := by simp; omega
  have d1' : decide (4096 < n) = false := by simpa using h40
  have hn1 : 16 ≤ n := by omega
  have hn2 : n ≤ 4096 := by omega
  have HN := hid_of hn
  have HR := hid_of (fun (X : World) (h : Below w.heap.size w X) => R.at h)
  obtain ⟨s, hs⟩ : ∃ s, s = strD l := ⟨_, rfl⟩
  have HCV : Hid (∀ X, Below w.heap.size w X → (convert 32 9 (.slice a n cap)).run Try.prog X = .ok (.string s) X) := hid_of (fun X h => by rw [hs]; exact conv_by8 (R.at h))
  have HCM : Hid (∀ (X : World) x k c, Rd X (.slice x k c) (by8 l) → (convert 32 9 (.slice x k c)).run Try.prog X = .ok (.string s) X) := hid_of (fun X x k c h => by rw [hs]; exact conv_by8 h)
  have hss : (s.toList == s.toList) = true := beq_self_eq_true _
  obtain ⟨M1, hM1⟩ : ∃ M1, M1 = ({ newF 2 n with cache := [(1, l)] } : DM) := ⟨_, rfl⟩
  obtain ⟨M2, hM2⟩ : ∃ M2, M2 = ({ newF 2 n with secs := [List.replicate n 0, l] } : DM) := ⟨_, rfl⟩
  obtain ⟨m1, m2, m3, m4, m5⟩ := mem_math hn.symm
  rw [← hM1] at m2 m3 m4
  rw [← hM2] at m4 m5
  have CN : Hid (∀ X, Calls Try.prog 11 #[.int .i64 2, .int .i64 n] X fun e w' => ∃ b, e = .returned (.tuple #[.pointer (some ⟨b, 0, none⟩), .int .i64 0]) ∧ I.DS (fun k => X.heap.size ≤ k ∧ k < w'.heap.size) w' b (newF 2 n) ∧ Below X.heap.size X w') := hid_of (fun X => I.newY 2 n (by omega) (by omega) hn1 hn2 X)
  have CW : Hid (∀ S U X b x c, I.DS S X b (newF 2 n) → CR U X (.slice x n c) l → (∀ k, U k → ¬ S k) → Calls Try.prog 22 #[.pointer (some ⟨b, 0, none⟩), .int .i64 1, .slice x n c] X fun e w' => e = .returned (.int .i64 0) ∧ I.DS (Nw S X w') w' b M1 ∧ Kept S X w') := hid_of (fun S U X b x c h hi hU => by
    have h9 := I.write U 1 r64_1 x n c l (by show 0 < 1000000; omega) hi hU h
    rwa [m1, m2] at h9)
  have CQ1 : Hid (∀ S X b, I.DS S X b M1 → Calls Try.prog 19 #[.pointer (some ⟨b, 0, none⟩), .int .i64 1] X fun e w' => ∃ x c, e = .returned (.tuple #[.slice x n c, .int .i64 0]) ∧ Rd w' (.slice x n c) (by8 l) ∧ w'.ownsRow X.heap.size 5 1 (.slice x n c) n (by8 l) ∧ Below X.heap.size X w') := hid_of (fun S X b h => (I.read 1 r64_1 (by rw [hM1]; show 1 ≤ 1000000; omega) h).mono fun e w' ⟨⟨x, k, c, q1, q2, q3⟩, q4⟩ => by
    rw [m3] at q1 q2 q4
    have q2 : Rd w' (.slice x k c) (by8 l) := q2
    have hk : k = n := by have := (rd_cut q2).1; rw [by8_length] at this; omega
    subst hk
    exact ⟨x, c, q1, q2, q4 x k c q1, q3⟩)
  have CS : Hid (∀ S X b, I.DS S X b M1 → Calls Try.prog 23 #[.pointer (some ⟨b, 0, none⟩)] X fun e w' => e = .returned (.int .i64 0) ∧ I.DS (Nw S X w') w' b M2 ∧ Kept S X w') := hid_of (fun S X b h => by
    have h9 := I.sync (by rw [hM1]; show 1 ≤ 1000000; omega) h
    rwa [m4] at h9)
  have CQ2 : Hid (∀ S X b, I.DS S X b M2 → Calls Try.prog 19 #[.pointer (some ⟨b, 0, none⟩), .int .i64 1] X fun e w' => ∃ x c, e = .returned (.tuple #[.slice x n c, .int .i64 0]) ∧ Rd w' (.slice x n c) (by8 l) ∧ Below X.heap.size X w') := hid_of (fun S X b h => (I.read 1 r64_1 (by rw [hM2]; show 0 ≤ 1000000; omega) h).mono fun e w' ⟨⟨x, k, c, q1, q2, q3⟩, q4⟩ => by
    rw [m5] at q1 q2
    have q2 : Rd w' (.slice x k c) (by8 l) := q2
    have hk : k = n := by have := (rd_cut q2).1; rw [by8_length] at this; omega
    subst hk
    exact ⟨x, c, q1, q2, q3⟩)
  clear R hn h16 h40 m1 m2 m3 m4 m5 hM1 hM2 hs
  go_enter Try.func8, Try.ntmps8
  go_wp2_with (first
    | (go_at_call 9; ((with_reducible refine (AW.out _).mono ?_); (rintro e w1 ⟨rfl, h1⟩); (have E1 := hid_of h1); clear h1))
    | (go_at_call 11; ((with_reducible refine (CN.out w1).mono ?_); (rintro e w2 ⟨b, rfl, q1, q2⟩)); have D2 := hid_of q1; have E2 := hid_of q2; have RB2 := hid_of (HR.out _ ((E1.out.trans (q2.mono E1.out.size)).trans ((bel_alloc w2 (.cells #[] 5)).mono (Nat.le_trans E1.out.size q2.size)))); clear q1 q2)
    | (at_builtin; (refine wpList_app u8E rfl _ _ rfl (v := .slice (some ⟨w2.heap.size, 0, none⟩) 0 0) (l := []) rfl (ow_empty 5 w2) (vx := .slice a n cap) (m := by8 l) rfl RB2.out (by8_cells l) (by have := HN.out; simp [by8_length]; omega) (by have := HN.out; simp [by8_length]; omega) ?_); intro xo1 n1 c1 w3 hn3 h3; obtain ⟨g, rfl, rfl, O3, C3⟩ := own_copy h3 hn3 HN.out hn1 hn2; have HO3 := hid_of O3; have HC3 := hid_of C3; have E3 := hid_of (E2.out.trans (h3.bel.mono E2.out.size)); have D3 := hid_of (I.keep D2.out ⟨h3.bel.size, fun k hk _ => h3.bel.block k hk.2⟩); clear hn3 h3 O3 C3)
    | (go_at_call 22; ((with_reducible refine (CW.out _ _ w3 b _ _ D3.out HC3.out.1 (fun k hk hS => absurd hS.2 (Nat.not_lt.2 hk.1))).mono ?_); (rintro e w4 ⟨rfl, q1, q2⟩)); have D4 := hid_of q1; have K4 := hid_of q2; have E4 := hid_of (E3.out.trans (q2.below E3.out.size fun k hk => hk.1)); have O4 : Hid (BRow w2.heap.size w4 g n c1) := hid_of ⟨_, own_same HO3.out fun k hk => q2.block k (HO3.out.lt k hk).2 fun hS => absurd hS.2 (Nat.not_lt.2 (HO3.out.lt k hk).1)⟩; clear q1 q2))
  have HNS : Hid (¬ Nw (fun k => w1.heap.size ≤ k ∧ k < w2.heap.size) w3 w4 g) := hid_of (fun hS => by
    have h9 := HO3.out.lt g rfl
    rcases hS with h | h
    · omega
    · omega)
  have HGB : Hid (w1.heap.size ≤ g) := hid_of (Nat.le_trans E2.out.size (HO3.out.lt g rfl).1)
  go_loopw [6] (fun iv wr => ∃ i : Nat, i ≤ n ∧ iv = .int .i64 i ∧ Hid (BRow w2.heap.size wr g n c1) ∧ Hid (I.DS (Nw (fun k => w1.heap.size ≤ k ∧ k < w2.heap.size) w3 w4) wr b M1) ∧ Hid (Below w1.heap.size w1 wr)) (fun iv _ => n - (intOf iv).toNat)
  case atStart => exact ⟨0, Nat.zero_le _, rfl, O4, D4, E4⟩
  case round =>
    obtain ⟨i, hi, rfl, hO, hD, hE⟩ := hrel
    by_cases hlt : i < n
    · have hdd : decide (i < n) = true := by simpa using hlt
      obtain ⟨hc1, hc2, x, kx, kf, hset⟩ := hO.out.get hn2 hlt
      have HS := hid_of hset
      clear hset
      go_wp2
      go_roundw
      case rel => exact ⟨i + 1, by omega, by go_num, hid_of (HS.out _), hid_of (I.keep hD.out (keeps_set _ _ _ _ HNS.out)), hid_of (hE.out.setCell HGB.out _)⟩
      case measure => simp [intOf]; omega
    · obtain rfl : i = n := by omega
      have hdd : decide (i < i) = false := by simp
      go_wp2_with (go_at_call 19; ((with_reducible refine (CQ1.out _ wr b hD.out).mono ?_); (rintro e w5 ⟨x5, c5, rfl, q1, q2, q3⟩)); obtain ⟨g5, rfl, hg5, _⟩ := own_addr q2 (by omega); have RX5 := HCM.out w5 _ _ _ q1; have O5 : Hid (BRow wr.heap.size w5 g5 i c5) := hid_of ⟨_, q2⟩; have E5 := hid_of (hE.out.trans (q3.mono hE.out.size)); have D5 := hid_of (I.lt hD.out); have D5 := hid_of (I.keep D5.out ⟨q3.size, fun k hk _ => q3.block k hk.2⟩); have HG5 := hid_of ((q2.lt g5 rfl).1); have RB5 := HCV.out w5 (E1.out.trans (E5.out.mono E1.out.size)); have hc5 := (rd_cut q1).2; have HWR := hid_of hE.out.size; clear q1 q2 q3)
      go_loopw [9] (fun iv wx => ∃ j : Nat, j ≤ i ∧ iv = .int .i64 j ∧ Hid (BRow wr.heap.size wx g5 i c5) ∧ Hid (I.DS (fun k => Nw (fun k => w1.heap.size ≤ k ∧ k < w2.heap.size) w3 w4 k ∧ k < wr.heap.size) wx b M1) ∧ Hid (Below w1.heap.size w1 wx)) (fun iv _ => i - (intOf iv).toNat)
      case atStart => exact ⟨0, Nat.zero_le _, rfl, O5, D5, E5⟩
      case round =>
        obtain ⟨j, hj, rfl, hO, hD, hE⟩ := hrel
        by_cases hlt : j < i
        · have hdd : decide (j < i) = true := by simpa using hlt
          obtain ⟨hc1', hc2', x, kx, kf, hset⟩ := hO.out.get hn2 hlt
          have HS := hid_of hset
          clear hset
          go_wp2
          go_roundw
          case rel => exact ⟨j + 1, by omega, by go_num, hid_of (HS.out _), hid_of (I.keep hD.out (keeps_set _ _ _ _ fun hS => absurd hS.2 (Nat.not_lt.2 HG5.out))), hid_of (hE.out.setCell (Nat.le_trans HWR.out HG5.out) _)⟩
          case measure => simp [intOf]; omega
        · obtain rfl : j = i := by omega
          have hdd2 : decide (j < j) = false := by simp
          go_wp2_with (first
            | (go_at_call 23; ((with_reducible refine (CS.out _ wr b hD.out).mono ?_); (rintro e w6 ⟨rfl, q1, q2⟩)); have D6 := hid_of q1; have E6 := hid_of (hE.out.trans (q2.below hE.out.size fun k hk => by rcases hk.1 with h | h; exact h.1; have := E3.out.size; omega)); clear q1 q2)
            | (go_at_call 19; ((with_reducible refine (CQ2.out _ w6 b D6.out).mono ?_); (rintro e w7 ⟨x7, c7, rfl, q1, q3⟩)); have RX7 := HCM.out w7 _ _ _ q1; have E7 := hid_of (E6.out.trans (q3.mono E6.out.size)); have RB7 := HCV.out w7 (E1.out.trans (E7.out.mono E1.out.size)); clear q1 q3))
          go_ret
          exact ⟨by first | rfl | simp, E1.out.trans (E7.out.mono E1.out.size)⟩
end Go.Proofs.Yteceljhhhbmemaa

/- An operation on the program's disk (play) and on the reference's (model). Bounds on sizes alone. -/
namespace Go.Proofs.Yteceljhhhbmemaa
open Go.RowKit
set_option maxRecDepth 100000
set_option maxHeartbeats 6400000

/-- What an operation gives, and the disk behind it. -/
def playF (M : DM) (x : OpX) : (List Int × Int) × DM :=
  if x.k = 0 then (([], (writeF M x.s x.l).1), (writeF M x.s x.l).2)
  else if x.k = 1 then (([], (syncF M).1), (syncF M).2)
  else if x.k = 2 then (([], 0), failF M x.s)
  else if x.k = 3 then (([], 0), crashF M x.kp)
  else (readF M x.s, M)
theorem rd_nil8 (w : World) : Rd w (.slice none 0 0) (by8 []) := ⟨none, 0, rfl, Nat.le_refl _, by omega, fun h => by simp [by8] at h⟩
theorem kept_below {S : Nat → Prop} {w w' : World} (h : Below w.heap.size w w') : Kept S w w' := Kept.ofBelow h
/-- Nothing new was made of the disk: its blocks may be counted more widely. -/
theorem kept_alloc {S : Nat → Prop} {w w' : World} {o : Obj} (h : Kept S (w.alloc o) w') : Kept S w w' := (Kept.ofBelow (bel_alloc w o)).trans h
namespace RI
def DS (S : Nat → Prop) (w : World) (b : Nat) (M : DM) : Prop := Rf.DS S w b M
section
variable {S T : Nat → Prop} {w w' : World} {b : Nat} {M : DM}
theorem keep (h : DS S w b M) (k : Keeps S w w') : DS S w' b M := by obtain ⟨vs, vc, xs, ps, h⟩ := h; exact ⟨vs, vc, xs, ps, h.keep k⟩
theorem mono (h : DS S w b M) (hs : ∀ k, S k → T k) : DS T w b M := by obtain ⟨vs, vc, xs, ps, h⟩ := h; exact ⟨vs, vc, xs, ps, h.mono hs⟩
theorem lt (h : DS S w b M) : DS (fun k => S k ∧ k < w.heap.size) w b M := by obtain ⟨vs, vc, xs, ps, h⟩ := h; exact ⟨vs, vc, xs, ps, h.lt⟩
theorem ok (h : DS S w b M) : M.Ok := by obtain ⟨vs, vc, xs, ps, h⟩ := h; exact h.ok
theorem read (s : Int) (hs : R64 s) (hc : M.cache.length ≤ 1000000) (h : DS S w b M) : Calls Try.prog 20 #[.pointer (some ⟨b, 0, none⟩), .int .i64 s] w (RdQ (readF M s).1 (readF M s).2 w) := by
  obtain ⟨vs, vc, xs, ps, h⟩ := h
  exact Rf.read_any S w b M vs vc xs ps s hs hc h
theorem write (U : Nat → Prop) (s : Int) (hs : R64 s) (bo : Option Addr) (bn bc : Nat) (l : List Int) (hc : M.cache.length < 1000000) (hin : CR U w (.slice bo bn bc) l) (hU : ∀ k, U k → ¬ S k) (h : DS S w b M) : Calls Try.prog 28 #[.pointer (some ⟨b, 0, none⟩), .int .i64 s, .slice bo bn bc] w fun e w' => e = .returned (.int .i64 (writeF M s l).1) ∧ DS (Nw S w w') w' b (writeF M s l).2 ∧ Kept S w w' := by
  obtain ⟨vs, vc, xs, ps, h⟩ := h
  exact Rf.write_any S w b M vs vc xs ps U s hs bo bn bc l hc hin hU h
theorem sync (hc : M.cache.length ≤ 1000000) (h : DS S w b M) : Calls Try.prog 29 #[.pointer (some ⟨b, 0, none⟩)] w fun e w' => e = .returned (.int .i64 (syncF M).1) ∧ DS (Nw S w w') w' b (syncF M).2 ∧ Kept S w w' := by
  obtain ⟨vs, vc, xs, ps, h⟩ := h
  exact (Rf.sync_any S w b M vs vc xs ps hc h).mono fun e w' ⟨q1, q2, q3⟩ => ⟨q1, mono q2 fun k hk => Or.inl hk, q3⟩
theorem fail (n : Int) (hn : R64 n) (h : DS S w b M) : Calls Try.prog 30 #[.pointer (some ⟨b, 0, none⟩), .int .i64 n] w fun e w' => e = .returned (.tuple #[]) ∧ DS (Nw S w w') w' b (failF M n) ∧ Kept S w w' := by
  obtain ⟨vs, vc, xs, ps, h⟩ := h
  exact (Rf.fail_any S w b M vs vc xs ps n hn h).mono fun e w' ⟨q1, q2, q3⟩ => ⟨q1, ⟨vs, vc, xs, ps, q2.mono fun k hk => Or.inl hk⟩, q3.mono fun k e => by rw [e]; exact h.sb⟩
theorem crash (U : Nat → Prop) (ko : Option Addr) (kn kc : Nat) (kp : List Bool) (hc : M.cache.length ≤ 1000000) (hin : Rd w (.slice ko kn kc) (bls kp) ∧ (0 < (bls kp).length → In U (.slice ko kn kc))) (hU : ∀ k, U k → ¬ S k) (h : DS S w b M) : Calls Try.prog 31 #[.pointer (some ⟨b, 0, none⟩), .slice ko kn kc] w fun e w' => e = .returned (.tuple #[]) ∧ DS (Nw S w w') w' b (crashF M kp) ∧ Kept S w w' := by
  obtain ⟨vs, vc, xs, ps, h⟩ := h
  exact (Rf.crash_any S w b M vs vc xs ps U ko kn kc kp hc hin hU h).mono fun e w' ⟨q1, q2, q3⟩ => ⟨q1, mono q2 fun k hk => Or.inl hk, q3⟩
end
end RI
/-- The rows of an operation lie outside S. -/
def OpX.out (S : Nat → Prop) (x : OpX) : Prop := ∃ U : Nat → Prop, (∀ k, U k → ¬ S k) ∧ (0 < x.l.length → In U x.vb) ∧ (0 < x.kp.length → In U x.vk)
theorem OpX.outB {w : World} {x : OpX} (h : x.rd w) {S : Nat → Prop} (hS : ∀ k, S k → w.heap.size ≤ k) : x.out S :=
  ⟨fun k => k < w.heap.size, fun k hk hs => absurd hk (Nat.not_lt.2 (hS k hs)), fun h0 => h.2.2.1.inlt (by rwa [by8_length]), fun h0 => h.2.2.2.inlt (by rwa [bls_length])⟩
theorem play_any (I : PI) (S : Nat → Prop) (w : World) (b : Nat) (M : DM) (x : OpX) (hr : x.rd w) (ho : x.out S) (hc : M.cache.length < 1000000) (h : I.DS S w b M) :
    Calls Try.prog 15 #[.pointer (some ⟨b, 0, none⟩), .agg #[.int .i64 x.k, .int .i64 x.s, x.vb, x.vk]] w (fun e w' => ∃ y n c, e = .returned (.tuple #[.slice y n c, .int .i64 (playF M x).1.2]) ∧ Rd w' (.slice y n c) (by8 (playF M x).1.1) ∧ I.DS (Nw S w w') w' b (playF M x).2 ∧ Kept S w w' ∧ In (fun k => w.heap.size ≤ k) (.slice y n c)) := by
  obtain ⟨k, s, vb, vk, l, kp⟩ := x
  obtain ⟨rk, rs, rb, rkp⟩ := hr
  obtain ⟨U, hU, hob, hok⟩ := ho
  simp only at rk rs rb rkp hob hok ⊢
  obtain ⟨ba, bc, rfl⟩ : ∃ a c, vb = .slice a l.length c := by obtain ⟨a, c, e, _⟩ := rb; rw [by8_length] at e; exact ⟨a, c, e⟩
  obtain ⟨ka, kc, rfl⟩ : ∃ a c, vk = .slice a kp.length c := by obtain ⟨a, c, e, _⟩ := rkp; rw [bls_length] at e; exact ⟨a, c, e⟩
  obtain ⟨bn, hbn⟩ : ∃ bn, bn = l.length := ⟨_, rfl⟩
  obtain ⟨kn, hkn⟩ : ∃ kn, kn = kp.length := ⟨_, rfl⟩
  have HU := hid_of (And.intro hU (And.intro hob hok))
  have HB : Hid (∀ o : Obj, I.DS S (w.alloc o) b M) := hid_of (fun o => I.keep h (keeps_alloc S w o))
  have HRB : Hid (∀ o : Obj, Rd (w.alloc o) (.slice ba l.length bc) (by8 l)) := hid_of (fun o => rb.at (bel_alloc w o))
  have HRK : Hid (∀ o : Obj, Rd (w.alloc o) (.slice ka kp.length kc) (bls kp)) := hid_of (fun o => rkp.at (bel_alloc w o))
  have HNW : Hid (∀ (o : Obj) w' M', I.DS (Nw S (w.alloc o) w') w' b M' → I.DS (Nw S w w') w' b M') := hid_of (fun o w' M' d => I.mono d fun q hq => by
    rcases hq with h | h
    · exact Or.inl h
    · exact Or.inr ⟨by have := h.1; simp at this; omega, h.2⟩)
  have hc' : M.cache.length ≤ 1000000 := by omega
  rw [← hbn] at hob HRB rb ⊢
  rw [← hkn] at hok HRK rkp ⊢
  by_cases hk : k = 0
  · subst hk
    have HE : Hid (playF M ⟨0, s, .slice ba bn bc, .slice ka kn kc, l, kp⟩ = (([], (writeF M s l).1), (writeF M s l).2)) := hid_of rfl
    rw [HE.out]
    have C0 := hid_of (I.write U s rs ba bn bc l hc ⟨HRB.out (.cells #[.int .i64 0, .int .i64 s, .slice ba bn bc, .slice ka kn kc] 37), fun h0 => hob (by omega)⟩ hU (HB.out (.cells #[.int .i64 0, .int .i64 s, .slice ba bn bc, .slice ka kn kc] 37)) : Calls Try.prog _ _ (w.alloc (.cells #[.int .i64 0, .int .i64 s, .slice ba bn bc, .slice ka kn kc] 37)) _)
    clear rk rs rb rkp hob hok hU h hc hc' hbn hkn
    go_enter Try.func15, Try.ntmps15
    go_wp2_with (go_at_call 22; ((with_reducible refine (C0.out).mono ?_); (rintro e w2 ⟨rfl, q1, q2⟩; have D2 := hid_of q1; have K2 := hid_of q2; clear q1 q2)))
    go_ret2
    exact ⟨_, _, _, rfl, rd_nil8 _, HNW.out _ _ _ D2.out, kept_alloc K2.out, in_nil _⟩
  by_cases hk : k = 1
  · subst hk
    have HE : Hid (playF M ⟨1, s, .slice ba bn bc, .slice ka kn kc, l, kp⟩ = (([], (syncF M).1), (syncF M).2)) := hid_of rfl
    rw [HE.out]
    have C0 := hid_of (I.sync hc' (HB.out (.cells #[.int .i64 1, .int .i64 s, .slice ba bn bc, .slice ka kn kc] 37)) : Calls Try.prog _ _ (w.alloc (.cells #[.int .i64 1, .int .i64 s, .slice ba bn bc, .slice ka kn kc] 37)) _)
    clear rk rs rb rkp hob hok hU h hc hc' hbn hkn
    go_enter Try.func15, Try.ntmps15
    go_wp2_with (go_at_call 23; ((with_reducible refine (C0.out).mono ?_); (rintro e w2 ⟨rfl, q1, q2⟩; have D2 := hid_of q1; have K2 := hid_of q2; clear q1 q2)))
    go_ret2
    exact ⟨_, _, _, rfl, rd_nil8 _, HNW.out _ _ _ D2.out, kept_alloc K2.out, in_nil _⟩
  by_cases hk : k = 2
  · subst hk
    have HE : Hid (playF M ⟨2, s, .slice ba bn bc, .slice ka kn kc, l, kp⟩ = (([], 0), failF M s)) := hid_of rfl
    rw [HE.out]
    have C0 := hid_of (I.fail s rs (HB.out (.cells #[.int .i64 2, .int .i64 s, .slice ba bn bc, .slice ka kn kc] 37)) : Calls Try.prog _ _ (w.alloc (.cells #[.int .i64 2, .int .i64 s, .slice ba bn bc, .slice ka kn kc] 37)) _)
    clear rk rs rb rkp hob hok hU h hc hc' hbn hkn
    go_enter Try.func15, Try.ntmps15
    go_wp2_with (go_at_call 24; ((with_reducible refine (C0.out).mono ?_); (rintro e w2 ⟨rfl, q1, q2⟩; have D2 := hid_of q1; have K2 := hid_of q2; clear q1 q2)))
    go_ret2
    exact ⟨_, _, _, rfl, rd_nil8 _, HNW.out _ _ _ D2.out, kept_alloc K2.out, in_nil _⟩
  by_cases hk : k = 3
  · subst hk
    have HE : Hid (playF M ⟨3, s, .slice ba bn bc, .slice ka kn kc, l, kp⟩ = (([], 0), crashF M kp)) := hid_of rfl
    rw [HE.out]
    have C0 := hid_of (I.crash U ka kn kc kp hc' ⟨HRK.out (.cells #[.int .i64 3, .int .i64 s, .slice ba bn bc, .slice ka kn kc] 37), fun h0 => hok (by rw [bls_length] at h0; omega)⟩ hU (HB.out (.cells #[.int .i64 3, .int .i64 s, .slice ba bn bc, .slice ka kn kc] 37)) : Calls Try.prog _ _ (w.alloc (.cells #[.int .i64 3, .int .i64 s, .slice ba bn bc, .slice ka kn kc] 37)) _)
    clear rk rs rb rkp hob hok hU h hc hc' hbn hkn
    go_enter Try.func15, Try.ntmps15
    go_wp2_with (go_at_call 25; ((with_reducible refine (C0.out).mono ?_); (rintro e w2 ⟨rfl, q1, q2⟩; have D2 := hid_of q1; have K2 := hid_of q2; clear q1 q2)))
    go_ret2
    exact ⟨_, _, _, rfl, rd_nil8 _, HNW.out _ _ _ D2.out, kept_alloc K2.out, in_nil _⟩
  rename_i hk0 hk1 hk2
  have HE : Hid (playF M ⟨k, s, .slice ba bn bc, .slice ka kn kc, l, kp⟩ = (readF M s, M)) := hid_of (by simp [playF, hk0, hk1, hk2, hk])
  rw [HE.out]
  have e0 : (k == 0) = false := beq_eq_false_iff_ne.2 hk0
  have e1 : (k == 1) = false := beq_eq_false_iff_ne.2 hk1
  have e2 : (k == 2) = false := beq_eq_false_iff_ne.2 hk2
  have e3 : (k == 3) = false := beq_eq_false_iff_ne.2 hk
  have C0 := hid_of (I.read s rs hc' (HB.out (.cells #[.int .i64 k, .int .i64 s, .slice ba bn bc, .slice ka kn kc] 37)))
  have HD := hid_of (fun (W : World) (hW : Below (w.alloc (.cells #[.int .i64 k, .int .i64 s, .slice ba bn bc, .slice ka kn kc] 37)).heap.size (w.alloc (.cells #[.int .i64 k, .int .i64 s, .slice ba bn bc, .slice ka kn kc] 37)) W) => I.keep (I.lt h) (w' := W) ⟨by have := hW.size; simp at this; omega, fun q hq _ => (hW.block q (by simp; omega)).trans ((bel_alloc w (.cells #[.int .i64 k, .int .i64 s, .slice ba bn bc, .slice ka kn kc] 37)).block q hq.2)⟩)
  clear rk rs rb rkp hob hok hU h hc hc' hbn hkn hk0 hk1 hk2 hk
  go_enter Try.func15, Try.ntmps15
  go_wp2_with (go_at_call 19; ((with_reducible refine (C0.out).mono ?_); (rintro e w2 ⟨⟨y, n, c, rfl, q1, q2⟩, q3⟩)); have R2 := hid_of q1; have B2 := hid_of q2; have N2 := hid_of (fun a hh => (q3 y n c rfl).lt a hh); clear q3; clear q1 q2)
  go_ret2
  exact ⟨_, _, _, rfl, R2.out, I.mono (HD.out _ B2.out) (fun q hq => Or.inl hq.1), kept_alloc (Kept.ofBelow B2.out), fun a _ _ e => by have h9 := (N2.out a.block (by rw [e]; rfl)).1; simp at h9; omega⟩
theorem model_any (S : Nat → Prop) (w : World) (b : Nat) (M : DM) (x : OpX) (hr : x.rd w) (ho : x.out S) (hc : M.cache.length < 1000000) (h : RI.DS S w b M) :
    Calls Try.prog 16 #[.pointer (some ⟨b, 0, none⟩), .agg #[.int .i64 x.k, .int .i64 x.s, x.vb, x.vk]] w (fun e w' => ∃ y n c, e = .returned (.tuple #[.slice y n c, .int .i64 (playF M x).1.2]) ∧ Rd w' (.slice y n c) (by8 (playF M x).1.1) ∧ RI.DS (Nw S w w') w' b (playF M x).2 ∧ Kept S w w') := by
  obtain ⟨k, s, vb, vk, l, kp⟩ := x
  obtain ⟨rk, rs, rb, rkp⟩ := hr
  obtain ⟨U, hU, hob, hok⟩ := ho
  simp only at rk rs rb rkp hob hok ⊢
  obtain ⟨ba, bc, rfl⟩ : ∃ a c, vb = .slice a l.length c := by obtain ⟨a, c, e, _⟩ := rb; rw [by8_length] at e; exact ⟨a, c, e⟩
  obtain ⟨ka, kc, rfl⟩ : ∃ a c, vk = .slice a kp.length c := by obtain ⟨a, c, e, _⟩ := rkp; rw [bls_length] at e; exact ⟨a, c, e⟩
  obtain ⟨bn, hbn⟩ : ∃ bn, bn = l.length := ⟨_, rfl⟩
  obtain ⟨kn, hkn⟩ : ∃ kn, kn = kp.length := ⟨_, rfl⟩
  have HU := hid_of (And.intro hU (And.intro hob hok))
  have HB : Hid (∀ o : Obj, RI.DS S (w.alloc o) b M) := hid_of (fun o => RI.keep h (keeps_alloc S w o))
  have HRB : Hid (∀ o : Obj, Rd (w.alloc o) (.slice ba l.length bc) (by8 l)) := hid_of (fun o => rb.at (bel_alloc w o))
  have HRK : Hid (∀ o : Obj, Rd (w.alloc o) (.slice ka kp.length kc) (bls kp)) := hid_of (fun o => rkp.at (bel_alloc w o))
  have HNW : Hid (∀ (o : Obj) w' M', RI.DS (Nw S (w.alloc o) w') w' b M' → RI.DS (Nw S w w') w' b M') := hid_of (fun o w' M' d => RI.mono d fun q hq => by
    rcases hq with h | h
    · exact Or.inl h
    · exact Or.inr ⟨by have := h.1; simp at this; omega, h.2⟩)
  have hc' : M.cache.length ≤ 1000000 := by omega
  rw [← hbn] at hob HRB rb ⊢
  rw [← hkn] at hok HRK rkp ⊢
  by_cases hk : k = 0
  · subst hk
    have HE : Hid (playF M ⟨0, s, .slice ba bn bc, .slice ka kn kc, l, kp⟩ = (([], (writeF M s l).1), (writeF M s l).2)) := hid_of rfl
    rw [HE.out]
    have C0 := hid_of (RI.write U s rs ba bn bc l hc ⟨HRB.out (.cells #[.int .i64 0, .int .i64 s, .slice ba bn bc, .slice ka kn kc] 37), fun h0 => hob (by omega)⟩ hU (HB.out (.cells #[.int .i64 0, .int .i64 s, .slice ba bn bc, .slice ka kn kc] 37)) : Calls Try.prog _ _ (w.alloc (.cells #[.int .i64 0, .int .i64 s, .slice ba bn bc, .slice ka kn kc] 37)) _)
    clear rk rs rb rkp hob hok hU h hc hc' hbn hkn
    go_enter Try.func16, Try.ntmps16
    go_wp2_with (go_at_call 28; ((with_reducible refine (C0.out).mono ?_); (rintro e w2 ⟨rfl, q1, q2⟩; have D2 := hid_of q1; have K2 := hid_of q2; clear q1 q2)))
    go_ret2
    exact ⟨_, _, _, rfl, rd_nil8 _, HNW.out _ _ _ D2.out, kept_alloc K2.out⟩
  by_cases hk : k = 1
  · subst hk
    have HE : Hid (playF M ⟨1, s, .slice ba bn bc, .slice ka kn kc, l, kp⟩ = (([], (syncF M).1), (syncF M).2)) := hid_of rfl
    rw [HE.out]
    have C0 := hid_of (RI.sync hc' (HB.out (.cells #[.int .i64 1, .int .i64 s, .slice ba bn bc, .slice ka kn kc] 37)) : Calls Try.prog _ _ (w.alloc (.cells #[.int .i64 1, .int .i64 s, .slice ba bn bc, .slice ka kn kc] 37)) _)
    clear rk rs rb rkp hob hok hU h hc hc' hbn hkn
    go_enter Try.func16, Try.ntmps16
    go_wp2_with (go_at_call 29; ((with_reducible refine (C0.out).mono ?_); (rintro e w2 ⟨rfl, q1, q2⟩; have D2 := hid_of q1; have K2 := hid_of q2; clear q1 q2)))
    go_ret2
    exact ⟨_, _, _, rfl, rd_nil8 _, HNW.out _ _ _ D2.out, kept_alloc K2.out⟩
  by_cases hk : k = 2
  · subst hk
    have HE : Hid (playF M ⟨2, s, .slice ba bn bc, .slice ka kn kc, l, kp⟩ = (([], 0), failF M s)) := hid_of rfl
    rw [HE.out]
    have C0 := hid_of (RI.fail s rs (HB.out (.cells #[.int .i64 2, .int .i64 s, .slice ba bn bc, .slice ka kn kc] 37)) : Calls Try.prog _ _ (w.alloc (.cells #[.int .i64 2, .int .i64 s, .slice ba bn bc, .slice ka kn kc] 37)) _)
    clear rk rs rb rkp hob hok hU h hc hc' hbn hkn
    go_enter Try.func16, Try.ntmps16
    go_wp2_with (go_at_call 30; ((with_reducible refine (C0.out).mono ?_); (rintro e w2 ⟨rfl, q1, q2⟩; have D2 := hid_of q1; have K2 := hid_of q2; clear q1 q2)))
    go_ret2
    exact ⟨_, _, _, rfl, rd_nil8 _, HNW.out _ _ _ D2.out, kept_alloc K2.out⟩
  by_cases hk : k = 3
  · subst hk
    have HE : Hid (playF M ⟨3, s, .slice ba bn bc, .slice ka kn kc, l, kp⟩ = (([], 0), crashF M kp)) := hid_of rfl
    rw [HE.out]
    have C0 := hid_of (RI.crash U ka kn kc kp hc' ⟨HRK.out (.cells #[.int .i64 3, .int .i64 s, .slice ba bn bc, .slice ka kn kc] 37), fun h0 => hok (by rw [bls_length] at h0; omega)⟩ hU (HB.out (.cells #[.int .i64 3, .int .i64 s, .slice ba bn bc, .slice ka kn kc] 37)) : Calls Try.prog _ _ (w.alloc (.cells #[.int .i64 3, .int .i64 s, .slice ba bn bc, .slice ka kn kc] 37)) _)
    clear rk rs rb rkp hob hok hU h hc hc' hbn hkn
    go_enter Try.func16, Try.ntmps16
    go_wp2_with (go_at_call 31; ((with_reducible refine (C0.out).mono ?_); (rintro e w2 ⟨rfl, q1, q2⟩; have D2 := hid_of q1; have K2 := hid_of q2; clear q1 q2)))
    go_ret2
    exact ⟨_, _, _, rfl, rd_nil8 _, HNW.out _ _ _ D2.out, kept_alloc K2.out⟩
  rename_i hk0 hk1 hk2
  have HE : Hid (playF M ⟨k, s, .slice ba bn bc, .slice ka kn kc, l, kp⟩ = (readF M s, M)) := hid_of (by simp [playF, hk0, hk1, hk2, hk])
  rw [HE.out]
  have e0 : (k == 0) = false := beq_eq_false_iff_ne.2 hk0
  have e1 : (k == 1) = false := beq_eq_false_iff_ne.2 hk1
  have e2 : (k == 2) = false := beq_eq_false_iff_ne.2 hk2
  have e3 : (k == 3) = false := beq_eq_false_iff_ne.2 hk
  have C0 := hid_of (RI.read s rs hc' (HB.out (.cells #[.int .i64 k, .int .i64 s, .slice ba bn bc, .slice ka kn kc] 37)))
  have HD := hid_of (fun (W : World) (hW : Below (w.alloc (.cells #[.int .i64 k, .int .i64 s, .slice ba bn bc, .slice ka kn kc] 37)).heap.size (w.alloc (.cells #[.int .i64 k, .int .i64 s, .slice ba bn bc, .slice ka kn kc] 37)) W) => RI.keep (RI.lt h) (w' := W) ⟨by have := hW.size; simp at this; omega, fun q hq _ => (hW.block q (by simp; omega)).trans ((bel_alloc w (.cells #[.int .i64 k, .int .i64 s, .slice ba bn bc, .slice ka kn kc] 37)).block q hq.2)⟩)
  clear rk rs rb rkp hob hok hU h hc hc' hbn hkn hk0 hk1 hk2 hk
  go_enter Try.func16, Try.ntmps16
  go_wp2_with (go_at_call 20; ((with_reducible refine (C0.out).mono ?_); (rintro e w2 ⟨y, n, c, rfl, q1, q2⟩)); have R2 := hid_of q1; have B2 := hid_of q2; clear q1 q2)
  go_ret2
  exact ⟨_, _, _, rfl, R2.out, RI.mono (HD.out _ B2.out) (fun q hq => Or.inl hq.1), kept_alloc (Kept.ofBelow B2.out)⟩
end Go.Proofs.Yteceljhhhbmemaa

/- The law Plays. Bounds on sizes alone. -/
namespace Go.Proofs.Yteceljhhhbmemaa
open Go.RowKit
set_option maxRecDepth 100000
set_option maxHeartbeats 12800000

theorem stepF_cache (M : DM) : (stepF M).2.cache = M.cache := (stepF_same M).2.2
theorem playF_cache (M : DM) (x : OpX) : (playF M x).2.cache.length ≤ M.cache.length + 1 := by
  unfold playF
  split
  · show (writeF M x.s x.l).2.cache.length ≤ _
    unfold writeF
    split
    · show M.cache.length ≤ _; omega
    · split
      · show (stepF M).2.cache.length ≤ _; rw [stepF_cache]; omega
      · show (M.cache ++ [_]).length ≤ _; simp
  · split
    · show (syncF M).2.cache.length ≤ _
      unfold syncF
      split
      · show (stepF M).2.cache.length ≤ _; rw [stepF_cache]; omega
      · show 0 ≤ _; omega
    · split
      · show (failF M x.s).cache.length ≤ _
        unfold failF
        split
        · omega
        · show M.cache.length ≤ _; omega
      · split
        · show 0 ≤ _; omega
        · show M.cache.length ≤ _; omega
theorem smallB_true {s z : Int} {len : Nat} (h : smallB s z len = true) : (1 ≤ s ∧ s ≤ 8) ∧ (16 ≤ z ∧ z ≤ 40) ∧ len ≤ 60 := by simpa [smallB] using h
theorem OpsIn.getB {w : World} {a : Option Addr} {len cap : Nat} {l : List OpX} (h : OpsIn w a len cap l) {i : Nat} (hi : i < len) : ∃ x, l[i]? = some x ∧ x.rd w := by
  obtain ⟨x, hx⟩ : ∃ x, l[i]? = some x := ⟨_, List.getElem?_eq_getElem (by have := h.1; omega)⟩
  exact ⟨x, hx, h.2.2 x (List.mem_of_getElem? hx)⟩
theorem OpsIn.cells {w : World} {a : Option Addr} {len cap : Nat} {l : List OpX} (h : OpsIn w a len cap l) {i : Nat} {x : OpX} (hx : l[i]? = some x) : ∃ g o, a = some ⟨g, o, none⟩ ∧ w.cell? ⟨g, o + i * 4, none⟩ = some (.int .i64 x.k) ∧ w.cell? ⟨g, o + i * 4 + 1, none⟩ = some (.int .i64 x.s) ∧ w.cell? ⟨g, o + i * 4 + 2, none⟩ = some x.vb ∧ w.cell? ⟨g, o + i * 4 + 3, none⟩ = some x.vk :=
  h.2.1.get (t := x.q) (by rw [List.getElem?_map, hx]; rfl)
theorem Rf.DS.box {S : Nat → Prop} {w : World} {b : Nat} {M : DM} (h : RI.DS S w b M) : ∃ aC cc, ∀ X, Below w.heap.size w X → X.cell? ⟨b, 3, none⟩ = some (.bool M.off) ∧ X.cell? ⟨b, 2, none⟩ = some (.slice aC M.cache.length cc) := by
  obtain ⟨vs, vc, xs, ps, h⟩ := h
  obtain ⟨aC, cc, rfl⟩ := own_shape h.cac
  refine ⟨aC, cc, fun X hX => ?_⟩
  have hb := (hX.block b h.blt).trans h.box
  exact ⟨cell_blk hb rfl, cell_blk hb rfl⟩
theorem plays_law (I : PI) (sc sz : Int) (a : Option Addr) (len cap : Nat) (l : List OpX) (w : World) (w0 : (Lit.int .i64 sc).wf = true) (w1 : (Lit.int .i64 sz).wf = true) (w2 : OpsIn w a len cap l) : Calls Try.prog 3 #[.int .i64 sc, .int .i64 sz, .slice a len cap] w (BoP true w) := by
  clear w0 w1
  have AW := hid_of (fun w => awake_any I w)
  have SM := hid_of (fun w => small_any sc sz a len cap w)
  by_cases hs : smallB sc sz len = true
  case neg =>
    rw [show smallB sc sz len = false by simpa using hs] at SM
    clear hs w2
    go_enter Try.func3, Try.ntmps3
    go_wp2_with (first
      | (go_at_call 9; ((with_reducible refine (AW.out _).mono ?_); (rintro e w1 ⟨rfl, h1⟩); (have E1 := hid_of h1); clear h1))
      | (go_at_call 10; ((with_reducible refine (SM.out w1).mono ?_); (rintro e w2 ⟨rfl, rfl⟩))))
    go_ret
    exact ⟨rfl, E1.out⟩
  rw [hs] at SM
  obtain ⟨hs1, hs2, hs3⟩ := smallB_true hs
  obtain ⟨n, rfl⟩ : ∃ n : Nat, sc = n := ⟨sc.toNat, by omega⟩
  obtain ⟨z, rfl⟩ : ∃ z : Nat, sz = z := ⟨sz.toNat, by omega⟩
  have HIN := hid_of (fun (X : World) (h : Below w.heap.size w X) => w2.at h)
  have HIW := hid_of w2
  have hlc := (w2.2.1.cut).2
  have CN := hid_of (fun X => I.newY n z (by omega) (by omega) (by omega) (by omega) X)
  have CM := hid_of (fun X => Rf.new_any n z (by omega) (by omega) X)
  have QS : Hid (∀ S b X, I.DS S X b (newF n z) → Calls Try.prog 12 #[.pointer (some ⟨b, 0, none⟩)] X fun e w' => e = .returned (.int .i64 n) ∧ Below X.heap.size X w') := hid_of (fun S b X h => by
    have h1 := I.sectors h
    rwa [show (newF n z).secs.length = n by simp [newF]] at h1)
  have QZ : Hid (∀ S b X, I.DS S X b (newF n z) → Calls Try.prog 13 #[.pointer (some ⟨b, 0, none⟩)] X fun e w' => e = .returned (.int .i64 z) ∧ Below X.heap.size X w') := hid_of (fun S b X h => I.size h)
  have hn8 : n ≤ 8 := by omega
  clear hs hs1 hs2 w2
  go_enter Try.func3, Try.ntmps3
  go_wp2_with (first
    | (go_at_call 9; ((with_reducible refine (AW.out _).mono ?_); (rintro e w1 ⟨rfl, h1⟩); (have E1 := hid_of h1); clear h1))
    | (go_at_call 10; ((with_reducible refine (SM.out w1).mono ?_); (rintro e w9 ⟨rfl, rfl⟩)))
    | (go_at_call 11; ((with_reducible refine (CN.out w1).mono ?_); (rintro e w2 ⟨b, rfl, q1, q2⟩)); have D2 := hid_of q1; have E2 := hid_of q2; clear q1 q2)
    | (go_at_call 12; ((with_reducible refine (QS.out _ _ w2 D2.out).mono ?_); (rintro e w3 ⟨rfl, q1⟩)); have D3 := hid_of (I.keep D2.out ⟨q1.size, fun k hk _ => q1.block k hk.2⟩); have E3 := hid_of (E2.out.trans (q1.mono E2.out.size)); have S3 := hid_of q1.size; clear q1)
    | (go_at_call 13; ((with_reducible refine (QZ.out _ _ w3 D3.out).mono ?_); (rintro e w4 ⟨rfl, q1⟩)); have D4 := hid_of (I.keep D3.out ⟨q1.size, fun k hk _ => q1.block k (Nat.lt_of_lt_of_le hk.2 S3.out)⟩); have E4 := hid_of (E3.out.trans (q1.mono E3.out.size)); have S4 := hid_of (Nat.le_trans S3.out q1.size); clear q1)
    | (go_at_call 14; ((with_reducible refine (CM.out w4).mono ?_); (rintro e w5 ⟨rfl, q1, q2⟩)); have R5 := hid_of (show RI.DS _ w5 w4.heap.size (newF n z) from q1); have D5 := hid_of (I.keep D4.out ⟨q2.size, fun k hk _ => q2.block k (Nat.lt_of_lt_of_le hk.2 S4.out)⟩); have E5 := hid_of (E4.out.trans (q2.mono E4.out.size)); have S5 := hid_of q2.size; clear q1 q2))
  obtain ⟨b2, hb2⟩ : ∃ b2, b2 = w4.heap.size := ⟨_, rfl⟩
  have R5 : Hid (RI.DS (fun k => w4.heap.size ≤ k ∧ k < w5.heap.size) w5 b2 (newF n z)) := hid_of (by rw [hb2]; exact R5.out)
  rw [← hb2]
  clear hb2
  go_loopw [10, 11, 12, 13, 14] (fun iv v11 v12 v13 v14 wr => ∃ (i : Nat) (M : DM) (P Q : Nat → Prop), i ≤ len ∧ iv = .int .i64 i ∧ Hid (M.cache.length ≤ i) ∧ Hid (I.DS P wr b M) ∧ Hid (RI.DS Q wr b2 M) ∧ Hid (∀ k, P k → (w1.heap.size ≤ k ∧ k < wr.heap.size) ∧ ¬ Q k) ∧ Hid (∀ k, Q k → w1.heap.size ≤ k ∧ k < wr.heap.size) ∧ Hid (Below w1.heap.size w1 wr)) (fun iv _ _ _ _ _ => len - (intOf iv).toNat)
  case atStart => exact ⟨0, _, _, _, Nat.zero_le _, rfl, hid_of (Nat.le_refl _), D5, R5, hid_of (fun k hk => ⟨⟨hk.1, by have := hk.2; have := S4.out; have := S5.out; omega⟩, fun h => by have := hk.2; have := h.1; have := S4.out; omega⟩), hid_of (fun k hk => ⟨by have := E4.out.size; omega, hk.2⟩), E5⟩
  case round =>
    obtain ⟨i, M, P, Q, hi, rfl, hMc, hD, hR, hP, hQ, hE⟩ := hrel
    by_cases hlt : i < len
    · have hdd : decide (i < len) = true := by simpa using hlt
      have EW := hid_of (E1.out.trans (hE.out.mono E1.out.size))
      obtain ⟨x, hx, hxr⟩ := HIW.out.getB hlt
      have HX := hid_of hx
      have HXR := hid_of hxr
      obtain ⟨g, o, rfl, k0, k1, k2, k3⟩ := (HIN.out wr EW.out).cells hx
      have HC : Hid (M.cache.length < 1000000) := hid_of (by have := hMc.out; omega)
      obtain ⟨F, hF⟩ : ∃ F, F = playF M x := ⟨_, rfl⟩
      have HF := hid_of hF
      have CP : Hid (Calls Try.prog 15 #[.pointer (some ⟨b, 0, none⟩), .agg #[.int .i64 x.k, .int .i64 x.s, x.vb, x.vk]] wr fun e w' => ∃ y n c, e = .returned (.tuple #[.slice y n c, .int .i64 F.1.2]) ∧ Rd w' (.slice y n c) (by8 F.1.1) ∧ I.DS (Nw P wr w') w' b F.2 ∧ Kept P wr w' ∧ In (fun k => wr.heap.size ≤ k) (.slice y n c)) := hid_of (by rw [hF]; exact play_any I P wr b M x (OpX.rd_at hxr EW.out) (OpX.outB hxr fun k hk => Nat.le_trans E1.out.size (hP.out k hk).1.1) HC.out hD.out)
      have CQ : Hid (∀ X, Below w.heap.size w X → RI.DS Q X b2 M → Calls Try.prog 16 #[.pointer (some ⟨b2, 0, none⟩), .agg #[.int .i64 x.k, .int .i64 x.s, x.vb, x.vk]] X fun e w' => ∃ y n c, e = .returned (.tuple #[.slice y n c, .int .i64 F.1.2]) ∧ Rd w' (.slice y n c) (by8 F.1.1) ∧ RI.DS (Nw Q X w') w' b2 F.2 ∧ Kept Q X w') := hid_of (fun X hX d => by rw [hF]; exact model_any Q X b2 M x (OpX.rd_at hxr hX) (OpX.outB hxr fun k hk => Nat.le_trans E1.out.size (hQ.out k hk).1) HC.out d)
      have HCF : Hid (F.2.cache.length ≤ i + 1) := hid_of (by rw [hF]; have := playF_cache M x; have := hMc.out; omega)
      have HIX := hid_of (fun (X : World) (h : Below w.heap.size w X) => (HIN.out X h).cells hx)
      obtain ⟨er, her⟩ : ∃ er, er = F.1.2 := ⟨_, rfl⟩
      rw [← her] at CP CQ
      have her2 : (er != er) = false := by simp
      obtain ⟨s, hs⟩ : ∃ s, s = strD F.1.1 := ⟨_, rfl⟩
      have HCV : Hid (∀ (X : World) y k c, Rd X (.slice y k c) (by8 F.1.1) → (convert 32 9 (.slice y k c)).run Try.prog X = .ok (.string s) X) := hid_of (fun X y k c h => by rw [hs]; exact conv_by8 h)
      have hss : (s.toList == s.toList) = true := beq_self_eq_true _
      have hss2 : (s.toList != s.toList) = false := by simp
      obtain ⟨ob, hob⟩ : ∃ ob, ob = F.2.off := ⟨_, rfl⟩
      have hobb : (ob != ob) = false := by cases ob <;> rfl
      obtain ⟨cn, hcn⟩ : ∃ cn, cn = F.2.cache.length := ⟨_, rfl⟩
      have hcnn : ((cn : Int) != (cn : Int)) = false := by simp
      have HOB := hid_of (And.intro hob hcn)
      clear hx hxr hF her hs hob hcn
      go_wp2_with (first
        | (go_at_call 15; ((with_reducible refine (CP.out).mono ?_); (rintro e w5 ⟨y5, n5, c5, rfl, q1, q2, q3, q4⟩)); have Y5 := hid_of q1; have N5 := hid_of q4; have D5 := hid_of (I.lt q2); have K5 := hid_of q3; have E5 := hid_of (hE.out.trans (q3.below hE.out.size fun k hk => (hP.out k hk).1.1)); have R5 := hid_of (RI.keep hR.out ⟨q3.size, fun k hk hl => q3.block k hl fun h => (hP.out k h).2 hk⟩); obtain ⟨g', o', e9, j0, j1, j2, j3⟩ := HIX.out w5 (E1.out.trans (E5.out.mono E1.out.size)); cases e9; have S5 := hid_of q3.size; clear q1 q2 q3 q4)
        | (go_at_call 16; ((with_reducible refine (CQ.out w5 (E1.out.trans (E5.out.mono E1.out.size)) R5.out).mono ?_); (rintro e w6 ⟨y6, n6, c6, rfl, q1, q2, q3⟩)); have Y6 := hid_of q1; have R6 := hid_of (RI.lt q2); have Y56 := hid_of (Y5.out.keepS N5.out q3.size fun k hk hl => q3.block k hl fun h => absurd (hQ.out k h).2 (Nat.not_lt.2 hk)); have S6 := hid_of q3.size; have D6 := hid_of (I.keep D5.out ⟨q3.size, fun k hk hl => q3.block k hl fun h => by rcases hk.1 with h1 | h1; exact (hP.out k h1).2 h; exact absurd (hQ.out k h).2 (Nat.not_lt.2 h1.1)⟩); have E6 := hid_of (E5.out.trans (q3.below E5.out.size fun k hk => (hQ.out k hk).1)); clear q1 q2 q3))
      obtain ⟨aC, cc, hbx⟩ := Rf.DS.box R6.out
      rw [← HOB.out.1, ← HOB.out.2] at hbx
      have HFC : Hid (∀ X, Below w6.heap.size w6 X → ((convert 32 9 (.slice y5 n5 c5)).run Try.prog X = .ok (.string s) X ∧ (convert 32 9 (.slice y6 n6 c6)).run Try.prog X = .ok (.string s) X ∧ X.cell? ⟨b2, 3, none⟩ = some (.bool ob) ∧ X.cell? ⟨b2, 2, none⟩ = some (.slice aC cn cc)) ∧ I.DS (fun k => Nw P wr w5 k ∧ k < w5.heap.size) X b F.2) := hid_of (fun X hX => ⟨⟨HCV.out X _ _ _ (Y56.out.at hX), HCV.out X _ _ _ (Y6.out.at hX), (hbx X hX).1, (hbx X hX).2⟩, I.keep D6.out ⟨hX.size, fun k hk _ => hX.block k (Nat.lt_of_lt_of_le hk.2 S6.out)⟩⟩)
      clear hbx
      have CD : Hid (∀ m, Calls Try.prog 17 #[.pointer (some ⟨b, 0, none⟩)] (w6.drewN m) fun e w' => e = .returned (.bool ob) ∧ ∃ q, w' = (w6.drewN m).drewN q) := hid_of (fun m => by rw [HOB.out.1]; exact I.downQ (HFC.out _ (bel_drewN (Below.refl _ _) m)).2)
      have CC : Hid (∀ m, Calls Try.prog 18 #[.pointer (some ⟨b, 0, none⟩)] (w6.drewN m) fun e w' => e = .returned (.int .i64 cn) ∧ ∃ q, w' = (w6.drewN m).drewN q) := hid_of (fun m => by rw [HOB.out.2]; exact I.cachedQ (HFC.out _ (bel_drewN (Below.refl _ _) m)).2)
      have f1 := fun m => (HFC.out (w6.drewN m) (bel_drewN (Below.refl _ _) m)).1.1
      have f2 := fun m => (HFC.out (w6.drewN m) (bel_drewN (Below.refl _ _) m)).1.2.1
      have f3 := (HFC.out w6 (Below.refl _ _)).1.2.2.1
      have f4 := (HFC.out w6 (Below.refl _ _)).1.2.2.2
      have f1' := (HFC.out w6 (Below.refl _ _)).1.1
      have f2' := (HFC.out w6 (Below.refl _ _)).1.2.1
      go_quiet (first
        | (go_at_call 17; exact Calls.quiet_of (CD.out _))
        | (go_at_call 18; exact Calls.quiet_of (CC.out _)))
      have K8 : Hid (Below w6.heap.size w6 (w6.drewN nq)) := hid_of (bel_drewN (Below.refl _ _) nq)
      all_goals go_wp2
      all_goals go_roundw
      all_goals first
        | (exact ⟨i + 1, F.2, _, _, by omega, by go_num, HCF, hid_of (HFC.out _ K8.out).2, hid_of (RI.keep R6.out ⟨K8.out.size, fun k hk _ => K8.out.block k hk.2⟩), hid_of (fun k hk => ⟨⟨by
            rcases hk.1 with h | h
            · exact (hP.out k h).1.1
            · have := hE.out.size; omega, by have := hk.2; have := S6.out; have := K8.out.size; omega⟩, fun h2 => by
            rcases h2.1 with h | h
            · rcases hk.1 with h3 | h3
              · exact (hP.out k h3).2 h
              · exact absurd (hQ.out k h).2 (Nat.not_lt.2 h3.1)
            · have := hk.2; omega⟩), hid_of (fun k hk => ⟨by
            rcases hk.1 with h | h
            · exact (hQ.out k h).1
            · have := E5.out.size; omega, by have := hk.2; have := K8.out.size; omega⟩), hid_of (E6.out.trans (K8.out.mono E6.out.size))⟩)
        | (simp [intOf]; omega)
    · obtain rfl : i = len := by omega
      have hdd : decide (i < i) = false := by simp
      go_wp2
      go_loopw [15, 16, 17, 18, 19] (fun iv v16 v17 v18 v19 wx => ∃ (j : Nat) (P Q : Nat → Prop), j ≤ n ∧ iv = .int .i64 j ∧ Hid (I.DS P wx b M ∧ ∀ k, P k → k < wx.heap.size) ∧ Hid (RI.DS Q wx b2 M ∧ ∀ k, Q k → k < wx.heap.size) ∧ Hid (Below w1.heap.size w1 wx)) (fun iv _ _ _ _ _ => n - (intOf iv).toNat)
      case atStart => exact ⟨0, _, _, Nat.zero_le _, rfl, hid_of ⟨hD.out, fun k hk => (hP.out k hk).1.2⟩, hid_of ⟨hR.out, fun k hk => (hQ.out k hk).2⟩, hE⟩
      case round =>
        obtain ⟨j, P, Q, hj, rfl, hD, hR, hE⟩ := hrel
        by_cases hlt : j < n
        · have hdd : decide (j < n) = true := by simpa using hlt
          have hdi : decide ((j : Int) < (n : Int)) = true := by simp; omega
          have HC : Hid (M.cache.length ≤ 1000000) := hid_of (by have := hMc.out; omega)
          have rj : R64 (j : Int) := ⟨by omega, by omega⟩
          have CA := hid_of (I.read (j : Int) rj HC.out hD.out.1)
          have CB := hid_of (fun (X : World) (h : Below wr.heap.size wr X) => RI.read (j : Int) rj HC.out (RI.keep hR.out.1 ⟨h.size, fun k hk _ => h.block k (hR.out.2 k hk)⟩))
          obtain ⟨er, her⟩ : ∃ er, er = (readF M j).2 := ⟨_, rfl⟩
          obtain ⟨lr, hlr⟩ : ∃ lr, lr = (readF M j).1 := ⟨_, rfl⟩
          rw [← her, ← hlr] at CA CB
          obtain ⟨s, hs⟩ : ∃ s, s = strD lr := ⟨_, rfl⟩
          have HCV : Hid (∀ (X : World) y k c, Rd X (.slice y k c) (by8 lr) → (convert 32 9 (.slice y k c)).run Try.prog X = .ok (.string s) X) := hid_of (fun X y k c h => by rw [hs]; exact conv_by8 h)
          have hss : (s.toList == s.toList) = true := beq_self_eq_true _
          have hss2 : (s.toList != s.toList) = false := by simp
          have her2 : (er != er) = false := by simp
          clear her hlr hs rj
          go_wp2_with (first
            | (go_at_call 19; ((with_reducible refine (CA.out).mono ?_); (rintro e w5 ⟨⟨y5, n5, c5, rfl, q1, q2⟩, _⟩)); have Y5 := hid_of q1; have B5 := hid_of q2; clear q1 q2)
            | (go_at_call 20; ((with_reducible refine (CB.out w5 B5.out).mono ?_); (rintro e w6 ⟨y6, n6, c6, rfl, q1, q2⟩)); have B6 := hid_of (B5.out.trans (q2.mono B5.out.size)); have cv5 := HCV.out w6 _ _ _ (Y5.out.at q2); have cv6 := HCV.out w6 _ _ _ q1; clear q1 q2))
          go_roundw
          case rel => exact ⟨j + 1, _, _, by omega, by go_num, hid_of ⟨I.keep hD.out.1 ⟨B6.out.size, fun k hk _ => B6.out.block k (hD.out.2 k hk)⟩, fun k hk => Nat.lt_of_lt_of_le (hD.out.2 k hk) B6.out.size⟩, hid_of ⟨RI.keep hR.out.1 ⟨B6.out.size, fun k hk _ => B6.out.block k (hR.out.2 k hk)⟩, fun k hk => Nat.lt_of_lt_of_le (hR.out.2 k hk) B6.out.size⟩, hid_of (hE.out.trans (B6.out.mono hE.out.size))⟩
          case measure => simp [intOf]; omega
        · have hdd : decide (j < n) = false := by simpa using hlt
          have hdi : decide ((j : Int) < (n : Int)) = false := by simp; omega
          go_wp2
          go_ret
          exact ⟨rfl, E1.out.trans (hE.out.mono E1.out.size)⟩
end Go.Proofs.Yteceljhhhbmemaa

/- The law Synced. Bounds on sizes alone. -/
namespace Go.Proofs.Yteceljhhhbmemaa
open Go.RowKit
set_option maxRecDepth 100000
set_option maxHeartbeats 12800000

theorem stepF_dim (M : DM) : (stepF M).2.sz = M.sz ∧ (stepF M).2.secs = M.secs := ⟨(stepF_same M).1, (stepF_same M).2.1⟩
/-- The sizes stay; a sector that is durable and not in the cache stays so, whatever is not written to it. -/
theorem playF_dim (M : DM) (x : OpX) : (playF M x).2.sz = M.sz ∧ (playF M x).2.secs.length = M.secs.length := by
  unfold playF
  split
  · show (writeF M x.s x.l).2.sz = _ ∧ _
    unfold writeF
    split
    · exact ⟨rfl, rfl⟩
    · split
      · exact ⟨(stepF_dim M).1, by show (stepF M).2.secs.length = _; rw [(stepF_dim M).2]⟩
      · exact ⟨(stepF_dim M).1, by show (stepF M).2.secs.length = _; rw [(stepF_dim M).2]⟩
  · split
    · show (syncF M).2.sz = _ ∧ _
      unfold syncF
      split
      · exact ⟨(stepF_dim M).1, by show (stepF M).2.secs.length = _; rw [(stepF_dim M).2]⟩
      · exact ⟨(stepF_dim M).1, by show (putF M.secs M.cache).length = _; rw [putF_len]⟩
    · split
      · show (failF M x.s).sz = _ ∧ _
        unfold failF
        split <;> exact ⟨rfl, rfl⟩
      · split
        · exact ⟨rfl, by show (keepF _ _ _ _).length = _; rw [keepF_len]⟩
        · exact ⟨rfl, rfl⟩
def Dur (M : DM) (s : Nat) (l : List Int) : Prop := M.secs[s]? = some l ∧ ∀ p ∈ M.cache, p.1 ≠ s
theorem putF_other (s : Nat) : ∀ (c : List (Nat × List Int)) (S : List (List Int)), (∀ p ∈ c, p.1 ≠ s) → (putF S c)[s]? = S[s]?
  | [], _, _ => rfl
  | p :: r, S, h => by
    show (putF (S.set p.1 p.2) r)[s]? = _
    rw [putF_other s r _ fun q hq => h q (by simp [hq]), List.getElem?_set_ne (h p (by simp))]
theorem keepF_other (s : Nat) (S : List (List Int)) (c : List (Nat × List Int)) (kp : List Bool) (h : ∀ p ∈ c, p.1 ≠ s) : ∀ k, (keepF S c kp k)[s]? = S[s]?
  | 0 => rfl
  | k + 1 => by
    rw [keepF]
    split
    · rename_i p hp _
      rw [List.getElem?_set_ne (h p (List.mem_of_getElem? hp)), keepF_other s S c kp h k]
    · exact keepF_other s S c kp h k
theorem dur_crash {M : DM} {s : Nat} {l : List Int} (h : Dur M s l) (kp : List Bool) : Dur (crashF M kp) s l := ⟨by show (keepF _ _ _ _)[s]? = _; rw [keepF_other s _ _ _ h.2]; exact h.1, fun p hp => by simp [crashF] at hp⟩
theorem dur_play {M : DM} {s : Nat} {l : List Int} (h : Dur M s l) {x : OpX} (hx : ¬(x.k = 0 ∧ x.s = s)) : Dur (playF M x).2 s l := by
  unfold playF
  split
  · rename_i hk
    show Dur (writeF M x.s x.l).2 s l
    unfold writeF
    split
    · exact h
    · rename_i hn
      split
      · exact ⟨by show (stepF M).2.secs[s]? = _; rw [(stepF_dim M).2]; exact h.1, by show ∀ p ∈ (stepF M).2.cache, _; rw [stepF_cache]; exact h.2⟩
      · refine ⟨by show (stepF M).2.secs[s]? = _; rw [(stepF_dim M).2]; exact h.1, fun p hp => ?_⟩
        rcases List.mem_append.1 (show p ∈ M.cache ++ [(x.s.toNat, x.l)] from hp) with h1 | h1
        · exact h.2 p h1
        · rw [List.mem_singleton.1 h1]
          have hf : M.fits x.s = true := by simpa using (not_or.1 hn).1
          simp only [DM.fits, decide_eq_true_eq] at hf
          exact fun e => hx ⟨hk, by simp only at e; omega⟩
  · split
    · show Dur (syncF M).2 s l
      unfold syncF
      split
      · exact ⟨by show (stepF M).2.secs[s]? = _; rw [(stepF_dim M).2]; exact h.1, by show ∀ p ∈ (stepF M).2.cache, _; rw [stepF_cache]; exact h.2⟩
      · exact ⟨by show (putF M.secs M.cache)[s]? = _; rw [putF_other s _ _ h.2]; exact h.1, fun p hp => by simp at hp⟩
    · split
      · show Dur (failF M x.s) s l
        unfold failF
        split <;> exact h
      · split
        · exact dur_crash h x.kp
        · exact h
/-- Behind a crash a write of the right size and a Sync succeed, and the sector is durable. -/
theorem dur_write {M : DM} {s : Nat} {l : List Int} (kp : List Bool) (hs : s < M.secs.length) (hl : l.length = M.sz) :
    (writeF (crashF M kp) s l).1 = 0 ∧ (syncF (writeF (crashF M kp) s l).2).1 = 0 ∧ Dur (syncF (writeF (crashF M kp) s l).2).2 s l ∧ (syncF (writeF (crashF M kp) s l).2).2.secs.length = M.secs.length ∧ (syncF (writeF (crashF M kp) s l).2).2.cache = [] ∧ (writeF (crashF M kp) s l).2.cache.length = 1 := by
  have hlen : (crashF M kp).secs.length = M.secs.length := by show (keepF _ _ _ _).length = _; rw [keepF_len]
  have hf : (crashF M kp).fits s = true := by simp only [DM.fits, decide_eq_true_eq, hlen]; omega
  have e1 : writeF (crashF M kp) s l = (0, { crashF M kp with cache := [(s, l)] }) := by
    rw [writeF, if_neg (by rw [hf, hl]; simp [crashF]), stepF_free rfl (by show (-1 : Int) < 0; omega)]
    rfl
  have e2 : syncF { crashF M kp with cache := [(s, l)] } = (0, { crashF M kp with secs := (crashF M kp).secs.set s l, cache := [] }) := by
    rw [syncF, stepF_free rfl (by show (-1 : Int) < 0; omega)]
    rfl
  rw [e1]
  simp only []
  rw [e2]
  refine ⟨by first | rfl | trivial, by first | rfl | trivial, ⟨?_, fun p hp => by simp at hp⟩, ?_, by first | rfl | trivial, by first | rfl | trivial⟩
  · show ((crashF M kp).secs.set s l)[s]? = some l
    rw [List.getElem?_set_self (by omega)]
  · show ((crashF M kp).secs.set s l).length = _
    rw [List.length_set, hlen]
theorem dur_read {M : DM} {s : Nat} {l : List Int} (h : Dur M s l) (kp : List Bool) : readF (crashF M kp) s = (l, 0) := by
  have h1 := dur_crash h kp
  have hs := (List.getElem?_eq_some_iff.1 h1.1).1
  have hf : (crashF M kp).fits s = true := by simp only [DM.fits, decide_eq_true_eq]; omega
  rw [readF, if_neg (by rw [hf]; simp), if_neg (by simp [crashF])]
  show ((crashF M kp).content s, (0 : Int)) = _
  rw [DM.content]
  show ((lookF [] s 0).getD ((crashF M kp).secs.getD s []), (0 : Int)) = _
  rw [List.getD_eq_getElem?_getD, h1.1]
  rfl
theorem Lv.play {I : PI} {B c : Nat} {w wI : World} {b : Nat} {M : DM} (h : Lv I B c w b M) (hB : B ≤ w.heap.size) (hI : Below wI.heap.size wI w) (hBI : wI.heap.size ≤ B) {x : OpX} (hx : x.rd wI) (hc : M.cache.length < 1000000) :
    Calls Try.prog 15 #[.pointer (some ⟨b, 0, none⟩), .agg #[.int .i64 x.k, .int .i64 x.s, x.vb, x.vk]] w fun e w' => ∃ y n c, e = .returned (.tuple #[.slice y n c, .int .i64 (playF M x).1.2]) ∧ Lv I B w'.heap.size w' b (playF M x).2 ∧ Below B w w' := by
  obtain ⟨S, h1, h2⟩ := h
  exact (play_any I S w b M x (OpX.rd_at hx hI) (OpX.outB hx fun k hk => Nat.le_trans hBI (h2 k hk).1) hc h1).mono fun e w' ⟨y, n, cc, q1, _, q2, q3, _⟩ => ⟨y, n, cc, q1, lv_nw h2 hB q2 q3⟩
theorem synced_law (I : PI) (sc sz : Int) (a : Option Addr) (len cap : Nat) (l : List OpX) (s : Int) (ab : Option Addr) (lb cb : Nat) (zs : List Int) (ak : Option Addr) (lk ck : Nat) (kp : List Bool) (w : World) (w0 : (Lit.int .i64 sc).wf = true) (w1 : (Lit.int .i64 sz).wf = true) (w2 : OpsIn w a len cap l) (w3 : (Lit.int .i64 s).wf = true) (w4 : IsRow .u8 w ab lb cb zs) (w5 : Rd w (.slice ak lk ck) (bls kp)) :
    Calls Try.prog 6 #[.int .i64 sc, .int .i64 sz, .slice a len cap, .int .i64 s, .slice ab lb cb, .slice ak lk ck] w (BoP true w) := by
  clear w0 w1 w3
  have AW := hid_of (fun w => awake_any I w)
  have SM := hid_of (fun w => small_any sc sz a len cap w)
  obtain ⟨lr, hlr, _, R⟩ := w4.rd
  have R : Rd w (.slice ab lb cb) (by8 lr) := R
  clear w4
  by_cases hs : smallB sc sz len = true
  case neg =>
    rw [show smallB sc sz len = false by simpa using hs] at SM
    clear hs w2 R
    go_enter Try.func6, Try.ntmps6
    go_wp2_with (first
      | (go_at_call 9; ((with_reducible refine (AW.out _).mono ?_); (rintro e w1 ⟨rfl, h1⟩); (have E1 := hid_of h1); clear h1))
      | (go_at_call 10; ((with_reducible refine (SM.out w1).mono ?_); (rintro e w2 ⟨rfl, rfl⟩))))
    go_ret
    exact ⟨rfl, E1.out⟩
  rw [hs] at SM
  obtain ⟨hs1, hs2, hs3⟩ := smallB_true hs
  by_cases hg : (0 ≤ s ∧ s < sc) ∧ (lb : Int) = sz
  case neg =>
    have HN : Hid (¬((0 ≤ s ∧ s < sc) ∧ (lb : Int) = sz)) := hid_of hg
    by_cases h0 : s < 0
    · have d0 : decide (s < 0) = true := by simpa using h0
      clear hs hs1 hs2 hs3 w2 R hg h0
      go_enter Try.func6, Try.ntmps6
      go_wp2_with (first
        | (go_at_call 9; ((with_reducible refine (AW.out _).mono ?_); (rintro e w1 ⟨rfl, h1⟩); (have E1 := hid_of h1); clear h1))
        | (go_at_call 10; ((with_reducible refine (SM.out w1).mono ?_); (rintro e w2 ⟨rfl, rfl⟩))))
      go_ret
      exact ⟨rfl, E1.out⟩
    · have d0 : decide (s < 0) = false := by simpa using h0
      by_cases h1 : s ≥ sc
      · have d1 : decide (s ≥ sc) = true := by simpa using h1
        have d1' : decide (sc ≤ s) = true := by simpa using h1
        clear hs hs1 hs2 hs3 w2 R hg h0 h1
        go_enter Try.func6, Try.ntmps6
        go_wp2_with (first
          | (go_at_call 9; ((with_reducible refine (AW.out _).mono ?_); (rintro e w1 ⟨rfl, h1⟩); (have E1 := hid_of h1); clear h1))
          | (go_at_call 10; ((with_reducible refine (SM.out w1).mono ?_); (rintro e w2 ⟨rfl, rfl⟩))))
        go_ret
        exact ⟨rfl, E1.out⟩
      · have d1 : decide (s ≥ sc) = false := by simpa using h1
        have d1' : decide (sc ≤ s) = false := by simpa using h1
        have e2 : ((lb : Int) != sz) = true := bne_iff_ne.2 (by omega)
        have e2' : ((lb : Int) == sz) = false := beq_eq_false_iff_ne.2 (by omega)
        clear hs hs1 hs2 hs3 w2 R hg h0 h1
        go_enter Try.func6, Try.ntmps6
        go_wp2_with (first
          | (go_at_call 9; ((with_reducible refine (AW.out _).mono ?_); (rintro e w1 ⟨rfl, h1⟩); (have E1 := hid_of h1); clear h1))
          | (go_at_call 10; ((with_reducible refine (SM.out w1).mono ?_); (rintro e w2 ⟨rfl, rfl⟩))))
        go_ret
        exact ⟨rfl, E1.out⟩
  obtain ⟨⟨hg1, hg2⟩, hg3⟩ := hg
  obtain ⟨n, rfl⟩ : ∃ n : Nat, sc = n := ⟨sc.toNat, by omega⟩
  obtain ⟨s, rfl⟩ : ∃ k : Nat, s = k := ⟨s.toNat, by omega⟩
  obtain rfl := hg3
  have d0 : decide ((s : Int) < 0) = false := decide_eq_false (by omega)
  have d1 : decide ((s : Int) ≥ (n : Int)) = false := decide_eq_false (by omega)
  have d1' : decide ((n : Int) ≤ (s : Int)) = false := decide_eq_false (by omega)
  have d1'' : decide (n ≤ s) = false := decide_eq_false (by omega)
  have e2 : ((lb : Int) != (lb : Int)) = false := by simp
  have HIN := hid_of (fun (X : World) (h : Below w.heap.size w X) => w2.at h)
  have HIW := hid_of w2
  have HRB := hid_of R
  have HRK := hid_of w5
  have hlc := (w2.2.1.cut).2
  have HL := hid_of hlr
  have rs : R64 (s : Int) := ⟨by omega, by omega⟩
  have CN := hid_of (fun X => I.newY n lb (by omega) (by omega) (by omega) (by omega) X)
  have HSN : Hid (s < n) := hid_of (by omega)
  have CPL := hid_of (fun (X : World) (B c b : Nat) (M : DM) (x : OpX) (h : Lv I B c X b M) (hB : B ≤ X.heap.size) (hI : Below w.heap.size w X) (hBI : w.heap.size ≤ B) (hx : x.rd w) (hc : M.cache.length < 1000000) => h.play hB hI hBI hx hc)
  have CK : Hid (∀ (X : World) (B c b : Nat) (M : DM), Lv I B c X b M → B ≤ X.heap.size → Below w.heap.size w X → w.heap.size ≤ B → M.cache.length ≤ 1000000 → Calls Try.prog 25 #[.pointer (some ⟨b, 0, none⟩), .slice ak lk ck] X fun e w' => e = .returned (.tuple #[]) ∧ Lv I B w'.heap.size w' b (crashF M kp) ∧ Below B X w') := hid_of (fun X B c b M h hB hI hBI hc => h.crash hB hc ⟨HRK.out.at hI, fun h0 => (HRK.out.inlt h0).mono fun k hk => Or.inl (Nat.lt_of_lt_of_le hk hBI)⟩)
  have CW : Hid (∀ (X : World) (B c b : Nat) (M : DM), Lv I B c X b (crashF M kp) → B ≤ X.heap.size → Below w.heap.size w X → w.heap.size ≤ B → M.secs.length = n → M.sz = lb → Calls Try.prog 22 #[.pointer (some ⟨b, 0, none⟩), .int .i64 s, .slice ab lb cb] X fun e w' => e = .returned (.int .i64 0) ∧ Lv I B w'.heap.size w' b (writeF (crashF M kp) s lr).2 ∧ Below B X w') := hid_of (fun X B c b M h hB hI hBI h1 h2 => (h.write hB s rs (by show 0 < 1000000; omega) ⟨HRB.out.at hI, fun h0 => (HRB.out.inlt (by rwa [by8_length])).mono fun k hk => Or.inl (Nat.lt_of_lt_of_le hk hBI)⟩).mono fun e w' ⟨q1, q2, q3⟩ => ⟨by rw [q1, (dur_write kp (by rw [h1]; exact HSN.out) (by rw [h2]; exact HL.out)).1], q2, q3⟩)
  have CS : Hid (∀ (X : World) (B c b : Nat) (M : DM), Lv I B c X b (writeF (crashF M kp) s lr).2 → B ≤ X.heap.size → M.secs.length = n → M.sz = lb → Calls Try.prog 23 #[.pointer (some ⟨b, 0, none⟩)] X fun e w' => ∃ M2, (e = .returned (.int .i64 0) ∧ Dur M2 s lr ∧ M2.cache.length = 0) ∧ Lv I B w'.heap.size w' b M2 ∧ Below B X w') := hid_of (fun X B c b M h hB h1 h2 => by
    have hd := dur_write (M := M) (s := s) (l := lr) kp (by rw [h1]; exact HSN.out) (by rw [h2]; exact HL.out)
    exact (h.sync hB (by rw [hd.2.2.2.2.2]; omega)).mono fun e w' ⟨q1, q2, q3⟩ => ⟨_, ⟨by rw [q1, hd.2.1], hd.2.2.1, by rw [hd.2.2.2.2.1]; rfl⟩, q2, q3⟩)
  obtain ⟨st, hst⟩ : ∃ st, st = strD lr := ⟨_, rfl⟩
  have HCV : Hid (∀ (X : World) y k c, Rd X (.slice y k c) (by8 lr) → (convert 32 9 (.slice y k c)).run Try.prog X = .ok (.string st) X) := hid_of (fun X y k c h => by rw [hst]; exact conv_by8 h)
  have hss : (st.toList == st.toList) = true := beq_self_eq_true _
  have CR9 : Hid (∀ (X : World) (B c b : Nat) (M : DM), Lv I B c X b (crashF M kp) → Dur M s lr → Calls Try.prog 19 #[.pointer (some ⟨b, 0, none⟩), .int .i64 s] X fun e w' => ∃ y n c, e = .returned (.tuple #[.slice y n c, .int .i64 0]) ∧ Rd w' (.slice y n c) (by8 lr) ∧ Below X.heap.size X w') := hid_of (fun X B c b M ⟨S, h1, h2⟩ hd => (I.read s rs (by show 0 ≤ 1000000; omega) h1).mono fun e w' ⟨⟨y, n, c, q1, q2, q3⟩, _⟩ => by
    rw [dur_read hd] at q1 q2
    exact ⟨y, n, c, q1, q2, q3⟩)
  clear hs hs1 hs2 w2 R hlr hg1 hg2 hst w5 rs
  go_enter Try.func6, Try.ntmps6
  go_wp2_with (first
    | (go_at_call 9; ((with_reducible refine (AW.out _).mono ?_); (rintro e w1 ⟨rfl, h1⟩); (have E1 := hid_of h1); clear h1))
    | (go_at_call 10; ((with_reducible refine (SM.out w1).mono ?_); (rintro e w9 ⟨rfl, rfl⟩)))
    | (go_at_call 11; ((with_reducible refine (CN.out w1).mono ?_); (rintro e w2 ⟨b, rfl, q1, q2⟩)); have L2 := hid_of (show Lv I w1.heap.size w2.heap.size w2 b (newF n lb) from ⟨_, q1, fun k hk => hk⟩); have E2 := hid_of q2; clear q1 q2))
  go_loopw [15] (fun iv wr => ∃ (i : Nat) (M : DM), i ≤ len ∧ iv = .int .i64 i ∧ Hid (M.cache.length ≤ i ∧ M.secs.length = n ∧ M.sz = lb) ∧ Hid (Lv I w1.heap.size wr.heap.size wr b M) ∧ Hid (Below w1.heap.size w1 wr)) (fun iv _ => len - (intOf iv).toNat)
  case atStart => exact ⟨0, _, Nat.zero_le _, rfl, hid_of ⟨Nat.le_refl _, by simp [newF], rfl⟩, L2, E2⟩
  case round =>
    obtain ⟨i, M, hi, rfl, hM, hL, hE⟩ := hrel
    by_cases hlt : i < len
    · have hdd : decide (i < len) = true := by simpa using hlt
      have EW := hid_of (E1.out.trans (hE.out.mono E1.out.size))
      obtain ⟨x, hx, hxr⟩ := HIW.out.getB hlt
      obtain ⟨g, o, rfl, k0, k1, k2, k3⟩ := (HIN.out wr EW.out).cells hx
      have CP := hid_of (CPL.out wr _ _ b M x hL.out hE.out.size EW.out E1.out.size hxr (by have := hM.out.1; omega))
      have HM2 : Hid ((playF M x).2.cache.length ≤ i + 1 ∧ (playF M x).2.secs.length = n ∧ (playF M x).2.sz = lb) := hid_of ⟨by have := playF_cache M x; have := hM.out.1; omega, by rw [(playF_dim M x).2]; exact hM.out.2.1, by rw [(playF_dim M x).1]; exact hM.out.2.2⟩
      clear hx hxr
      go_wp2_with (go_at_call 15; ((with_reducible refine (CP.out).mono ?_); (rintro e w5 ⟨y5, n5, c5, rfl, q1, q2⟩)); have L5 := hid_of q1; have E5 := hid_of (hE.out.trans q2); clear q1 q2)
      go_roundw
      case rel => exact ⟨i + 1, _, by omega, by go_num, HM2, L5, E5⟩
      case measure => simp [intOf]; omega
    · obtain rfl : i = len := by omega
      have hdd : decide (i < i) = false := by simp
      have EW := hid_of (E1.out.trans (hE.out.mono E1.out.size))
      go_wp2_with (first
        | (go_at_call 25; ((with_reducible refine (CK.out wr _ _ b M hL.out hE.out.size EW.out E1.out.size (by have := hM.out.1; omega)).mono ?_); (rintro e w5 ⟨rfl, q1, q2⟩)); have L5 := hid_of q1; have E5 := hid_of (hE.out.trans q2); clear q1 q2)
        | (go_at_call 22; ((with_reducible refine (CW.out w5 _ _ b M L5.out E5.out.size (E1.out.trans (E5.out.mono E1.out.size)) E1.out.size hM.out.2.1 hM.out.2.2).mono ?_); (rintro e w6 ⟨rfl, q1, q2⟩)); have L6 := hid_of q1; have E6 := hid_of (E5.out.trans q2); clear q1 q2)
        | (go_at_call 23; ((with_reducible refine (CS.out w6 _ _ b M L6.out E6.out.size hM.out.2.1 hM.out.2.2).mono ?_); (rintro e w7 ⟨M2, ⟨rfl, qd, qc⟩, q1, q2⟩)); have L7 := hid_of q1; have E7 := hid_of (E6.out.trans q2); have DU := hid_of (And.intro qd qc); clear q1 q2 qd qc))
      go_loopw [16] (fun iv wr => ∃ (j : Nat) (M : DM), j ≤ i ∧ iv = .int .i64 j ∧ Hid (M.cache.length ≤ j ∧ Dur M s lr) ∧ Hid (Lv I w1.heap.size wr.heap.size wr b M) ∧ Hid (Below w1.heap.size w1 wr)) (fun iv _ => i - (intOf iv).toNat)
      case atStart => exact ⟨0, _, Nat.zero_le _, rfl, hid_of ⟨by rw [DU.out.2]; omega, DU.out.1⟩, L7, E7⟩
      case round =>
        obtain ⟨j, M, hj, rfl, hN, hL, hE⟩ := hrel
        by_cases hlt : j < i
        · have hdd : decide (j < i) = true := by simpa using hlt
          have EW := hid_of (E1.out.trans (hE.out.mono E1.out.size))
          obtain ⟨x, hx, hxr⟩ := HIW.out.getB hlt
          obtain ⟨g, o, rfl, k0, k1, k2, k3⟩ := (HIN.out wr EW.out).cells hx
          have CP := hid_of (CPL.out wr _ _ b M x hL.out hE.out.size EW.out E1.out.size hxr (by have := hN.out.1; omega))
          clear hx hxr
          by_cases hw : x.k = 0 ∧ x.s = s
          · obtain ⟨hw1, hw2⟩ := hw
            have e0 : (x.k != 0) = false := by simp [hw1]
            have e1 : (x.s != (s : Int)) = false := by simp [hw2]
            have e0' : (x.k == 0) = true := by simp [hw1]
            have e1' : (x.s == (s : Int)) = true := by simp [hw2]
            clear hw1 hw2
            go_wp2
            go_roundw
            case rel => exact ⟨j + 1, M, by omega, by go_num, hid_of ⟨by have := hN.out.1; omega, hN.out.2⟩, hL, hE⟩
            case measure => simp [intOf]; omega
          · have HM2 : Hid ((playF M x).2.cache.length ≤ j + 1 ∧ Dur (playF M x).2 s lr) := hid_of ⟨by have := playF_cache M x; have := hN.out.1; omega, dur_play hN.out.2 hw⟩
            by_cases hk : x.k = 0
            · have e0 : (x.k != 0) = false := by simp [hk]
              have e0' : (x.k == 0) = true := by simp [hk]
              have e1 : (x.s != (s : Int)) = true := bne_iff_ne.2 fun h => hw ⟨hk, h⟩
              have e1' : (x.s == (s : Int)) = false := beq_eq_false_iff_ne.2 fun h => hw ⟨hk, h⟩
              clear hw hk
              go_wp2_with (go_at_call 15; ((with_reducible refine (CP.out).mono ?_); (rintro e w5 ⟨y5, n5, c5, rfl, q1, q2⟩)); have L5 := hid_of q1; have E5 := hid_of (hE.out.trans q2); clear q1 q2)
              go_roundw
              case rel => exact ⟨j + 1, _, by omega, by go_num, HM2, L5, E5⟩
              case measure => simp [intOf]; omega
            · have e0 : (x.k != 0) = true := bne_iff_ne.2 hk
              have e0' : (x.k == 0) = false := beq_eq_false_iff_ne.2 hk
              clear hw hk
              go_wp2_with (go_at_call 15; ((with_reducible refine (CP.out).mono ?_); (rintro e w5 ⟨y5, n5, c5, rfl, q1, q2⟩)); have L5 := hid_of q1; have E5 := hid_of (hE.out.trans q2); clear q1 q2)
              go_roundw
              case rel => exact ⟨j + 1, _, by omega, by go_num, HM2, L5, E5⟩
              case measure => simp [intOf]; omega
        · obtain rfl : j = i := by omega
          have hdd2 : decide (j < j) = false := by simp
          have EW := hid_of (E1.out.trans (hE.out.mono E1.out.size))
          go_wp2_with (first
            | (go_at_call 25; ((with_reducible refine (CK.out wr _ _ b M hL.out hE.out.size EW.out E1.out.size (by have := hN.out.1; omega)).mono ?_); (rintro e w5 ⟨rfl, q1, q2⟩)); have L5 := hid_of q1; have E5 := hid_of (hE.out.trans q2); clear q1 q2)
            | (go_at_call 19; ((with_reducible refine (CR9.out w5 _ _ b M L5.out hN.out.2).mono ?_); (rintro e w6 ⟨y6, n6, c6, rfl, q1, q2⟩)); have E6 := hid_of (E5.out.trans (q2.mono E5.out.size)); have cv1 := HCV.out w6 _ _ _ q1; have cv2 := HCV.out w6 _ _ _ (HRB.out.at (E1.out.trans (E6.out.mono E1.out.size))); clear q1 q2))
          go_ret
          exact ⟨by first | rfl | simp, E1.out.trans (E6.out.mono E1.out.size)⟩
end Go.Proofs.Yteceljhhhbmemaa

/- What a sector may hold behind a crash, as mathematics. -/
namespace Go.Proofs.Yteceljhhhbmemaa

/-- The writes to a sector, in order. -/
def wrs (c : List (Nat × List Int)) (s : Nat) : List (List Int) := (c.filter fun p => p.1 == s).map (·.2)
def mayF (M : DM) (s : Nat) : List (List Int) := M.secs.getD s [] :: wrs M.cache s
theorem mayF_pos (M : DM) (s : Nat) : 0 < (mayF M s).length := by simp [mayF]
theorem mayF_len (M : DM) (s : Nat) : (mayF M s).length ≤ M.cache.length + 1 := by
  simp only [mayF, wrs, List.length_cons, List.length_map]
  have := List.length_filter_le (fun p : Nat × List Int => p.1 == s) M.cache
  omega
theorem may_same {M N : DM} (h1 : N.secs = M.secs) (h2 : N.cache = M.cache) (s : Nat) : mayF N s = mayF M s := by rw [mayF, mayF, h1, h2]
theorem may_new (n z s : Nat) (h : s < n) : mayF (newF n z) s = [List.replicate z 0] := by
  simp [mayF, newF, wrs, List.getD_eq_getElem?_getD, h]
theorem may_write {M : DM} {x : Int} {l : List Int} (h : (writeF M x l).1 = 0) : (0 ≤ x ∧ x < M.secs.length) ∧ ∀ s, mayF (writeF M x l).2 s = if s = x.toNat then mayF M s ++ [l] else mayF M s := by
  unfold writeF at h ⊢
  split
  · rename_i hn; rw [if_pos hn] at h; simp at h
  · rename_i hn
    rw [if_neg hn] at h
    split
    · rename_i hs; rw [if_pos hs] at h; simp at h
    · have hf : M.fits x = true := by simpa using (not_or.1 hn).1
      simp only [DM.fits, decide_eq_true_eq] at hf
      refine ⟨hf, fun s => ?_⟩
      show (stepF M).2.secs.getD s [] :: wrs (M.cache ++ [(x.toNat, l)]) s = _
      rw [(stepF_same M).2.1]
      simp only [wrs, List.filter_append, List.map_append, mayF]
      by_cases e : s = x.toNat
      · subst e; simp
      · have e2 : (x.toNat == s) = false := beq_eq_false_iff_ne.2 fun h => e h.symm
        simp [e, e2]
theorem may_write_ne {M : DM} {x : Int} {l : List Int} (h : (writeF M x l).1 ≠ 0) (s : Nat) : mayF (writeF M x l).2 s = mayF M s := by
  unfold writeF at h ⊢
  split
  · rfl
  · rename_i hn
    rw [if_neg hn] at h
    split
    · exact may_same (stepF_same M).2.1 (stepF_same M).2.2 s
    · rename_i hs; rw [if_neg hs] at h; simp at h
theorem putF_last (s : Nat) : ∀ (c : List (Nat × List Int)) (S : List (List Int)), s < S.length → (putF S c).getD s [] = (S.getD s [] :: wrs c s).getLast (by simp)
  | [], S, _ => by simp [putF, wrs]
  | p :: r, S, h => by
    show (putF (S.set p.1 p.2) r).getD s [] = _
    rw [putF_last s r (S.set p.1 p.2) (by rwa [List.length_set])]
    by_cases e : p.1 = s
    · have e2 : wrs (p :: r) s = p.2 :: wrs r s := by simp [wrs, e]
      have e3 : (S.set p.1 p.2).getD s [] = p.2 := by rw [List.getD_eq_getElem?_getD, e, List.getElem?_set_self h]; rfl
      simp only [e2, e3]
      rw [List.getLast_cons_cons]
    · have e2 : wrs (p :: r) s = wrs r s := by simp [wrs, e]
      have e3 : (S.set p.1 p.2).getD s [] = S.getD s [] := by rw [List.getD_eq_getElem?_getD, List.getElem?_set_ne e, List.getD_eq_getElem?_getD]
      simp only [e2, e3]
theorem may_sync {M : DM} (h : (syncF M).1 = 0) {s : Nat} (hs : s < M.secs.length) : mayF (syncF M).2 s = [(mayF M s).getLast (by simp [mayF])] := by
  unfold syncF at h ⊢
  split
  · rename_i hn; rw [if_pos hn] at h; simp at h
  · show (putF M.secs M.cache).getD s [] :: wrs [] s = _
    rw [putF_last s _ _ hs]
    rfl
theorem may_sync_ne {M : DM} (h : (syncF M).1 ≠ 0) (s : Nat) : mayF (syncF M).2 s = mayF M s := by
  unfold syncF at h ⊢
  split
  · exact may_same (stepF_same M).2.1 (stepF_same M).2.2 s
  · rename_i hn; rw [if_neg hn] at h; simp at h
theorem may_fail (M : DM) (n : Int) (s : Nat) : mayF (failF M n) s = mayF M s := by
  unfold failF
  split <;> rfl
theorem keepF_may (S : List (List Int)) (c : List (Nat × List Int)) (kp : List Bool) (s : Nat) (hs : s < S.length) : ∀ k, (keepF S c kp k).getD s [] ∈ S.getD s [] :: wrs c s
  | 0 => by simp [keepF]
  | k + 1 => by
    rw [keepF]
    split
    · rename_i p hp _
      by_cases e : p.1 = s
      · rw [show ((keepF S c kp k).set p.1 p.2).getD s [] = p.2 by rw [List.getD_eq_getElem?_getD, e, List.getElem?_set_self (by rwa [keepF_len])]; rfl]
        refine List.mem_cons_of_mem _ ?_
        simp only [wrs, List.mem_map, List.mem_filter]
        exact ⟨p, ⟨List.mem_of_getElem? hp, by simp [e]⟩, rfl⟩
      · rw [show ((keepF S c kp k).set p.1 p.2).getD s [] = (keepF S c kp k).getD s [] by rw [List.getD_eq_getElem?_getD, List.getElem?_set_ne e, ← List.getD_eq_getElem?_getD]]
        exact keepF_may S c kp s hs k
    · exact keepF_may S c kp s hs k
theorem may_crash (M : DM) (kp : List Bool) {s : Nat} (hs : s < M.secs.length) : ∃ b, readF (crashF M kp) s = (b, 0) ∧ b ∈ mayF M s := by
  have hlen : (crashF M kp).secs.length = M.secs.length := by show (keepF _ _ _ _).length = _; rw [keepF_len]
  have hf : (crashF M kp).fits s = true := by simp only [DM.fits, decide_eq_true_eq, hlen]; omega
  refine ⟨_, ?_, keepF_may M.secs M.cache kp s hs (min M.cache.length kp.length)⟩
  rw [readF, if_neg (by rw [hf]; simp), if_neg (by simp [crashF])]
  rfl

end Go.Proofs.Yteceljhhhbmemaa

/- What a sector may hold behind a crash, in memory: rows of rows that are cut at the front and grow. Bounds on sizes alone. -/
namespace Go.Proofs.Yteceljhhhbmemaa
open Go.RowKit
set_option maxRecDepth 100000
set_option maxHeartbeats 3200000

/-- A row at the offset o of block g, with room for cap. -/
def OO (E : TypeId) (w : World) (g o cap : Nat) (us : List Value) : Prop := ∃ cur : List Value, w.heap[g]? = some (.cells cur.toArray E (0, 0)) ∧ us.length ≤ cap ∧ cap ≤ maxLen ∧ o + cap ≤ cur.length ∧ ∀ j u, us[j]? = some u → cur[o + j]? = some u
theorem OO.lt {E : TypeId} {w : World} {g o cap : Nat} {us : List Value} (h : OO E w g o cap us) : g < w.heap.size := by
  obtain ⟨cur, h1, _⟩ := h
  exact (Array.getElem?_eq_some_iff.1 h1).1
theorem OO.same {E : TypeId} {w w' : World} {g o cap : Nat} {us : List Value} (h : OO E w g o cap us) (e : w'.heap[g]? = w.heap[g]?) : OO E w' g o cap us := by
  obtain ⟨cur, h1, h2⟩ := h
  exact ⟨cur, e.trans h1, h2⟩
theorem OO.cell {E : TypeId} {w : World} {g o cap j : Nat} {us : List Value} {u : Value} (h : OO E w g o cap us) (hu : us[j]? = some u) : w.cell? ⟨g, o + j, none⟩ = some u := by
  obtain ⟨cur, h1, _, _, _, h2⟩ := h
  exact cell_blk h1 (h2 j u hu)
theorem OO.drop {E : TypeId} {w : World} {g o cap k : Nat} {us : List Value} (h : OO E w g o cap us) (hk : k ≤ us.length) : OO E w g (o + k) (cap - k) (us.drop k) := by
  obtain ⟨cur, h1, h2, h3, h4, h5⟩ := h
  refine ⟨cur, h1, by rw [List.length_drop]; omega, by omega, by omega, fun j u hu => ?_⟩
  rw [List.getElem?_drop] at hu
  have := h5 _ _ hu
  rwa [← Nat.add_assoc] at this
theorem run_append_oo {P : Program} (w : World) (t ty E : TypeId) (z : Value) (bytes : Nat) (ht : P.underlying t = some (.slice E)) (hi : (P.info? E).map (fun i => (i.zero, i.size, i.bytes)) = some (some z, 1, bytes)) (hz : z.cells.size = 1)
    {g o cap : Nat} {us : List Value} (h : OO E w g o cap us) (x u : Value) (hs : Src P 1 t x 1 [u] w) (h63 : us.length + 1 ≤ maxLen) (hb : (us.length + 1) * bytes ≤ 140737488355328) :
    ∃ g' o' cap' w', (Builtin.append_ #[t, t] ty #[.slice (some ⟨g, o, none⟩) us.length cap, x]).run P w = .ok (.slice (some ⟨g', o', none⟩) (us.length + 1) cap') w' ∧ OO E w' g' o' cap' (us ++ [u]) ∧ w.grownBy w' (some g) ∧ (g' = g ∨ g' = w.heap.size) := by
  obtain ⟨i, hi, hz0, hz1, hz2⟩ := info_parts hi
  have hO := h
  obtain ⟨cur, h1, h2, h3, h4, h5⟩ := h
  have hsmall : us.length + 1 ≤ 9223372036854775807 := by simp only [maxLen] at h63; omega
  by_cases hroom : us.length + 1 ≤ cap
  · have hr := run_append_room_src (P := P) w t t ty E i ht hi g o us.length cap x 1 [u] (by rw [hz1]; exact hs) hroom
      (by
        intro j hj
        have hj : j = 0 := by simpa using hj
        subst hj
        rw [hz1, Nat.mul_one, Nat.add_zero]
        have : cur[o + us.length]? = some cur[o + us.length] := List.getElem?_eq_getElem (by omega)
        rw [cell_blk h1 this]; rfl)
      (fun j _ => fr_blk h1 _)
    rw [hz1, Nat.mul_one] at hr
    have hset : w.setCells g (o + us.length) [u] = w.setCell ⟨g, o + us.length, none⟩ u := rfl
    rw [hset] at hr
    refine ⟨g, o, cap, _, hr, ⟨_, blk_setCell h1, by rw [List.length_append]; simpa using hroom, h3, by rw [List.length_set]; exact h4, fun j v hv => ?_⟩, ⟨rfl, rfl, rfl, by simp, fun k _ hk => set_blk (fun e => hk (by rw [e]))⟩, Or.inl rfl⟩
    by_cases e : j < us.length
    · rw [List.getElem?_append_left e] at hv
      rw [List.getElem?_set_ne (by omega)]
      exact h5 j v hv
    · rw [List.getElem?_append_right (by omega)] at hv
      have hj : j = us.length := by have := (List.getElem?_eq_some_iff.1 hv).1; simp at this; omega
      subst hj
      rw [List.getElem?_set_self (by omega)]
      simpa using hv
  · have holds : ∀ j v, us[j]? = some v → w.drew.cell? ((⟨g, o, none⟩ : Addr).add j) = some v := fun j v hv => by
      rw [plain_addD]
      exact (hO.cell hv)
    have hr := run_append_grow_src (P := P) w t t ty E i z ht hi hz0 (some ⟨g, o, none⟩) us.length cap us (run_firstCells_some w.drew i.size us.length ⟨g, o, none⟩ us.length cap us (by rw [hz1, Nat.mul_one]) holds) x 1 [u] (by rw [hz1]; exact hs) (by omega) (by omega) (growslice_fits (by omega) (by rw [hz2]; exact hb))
    have hge := grownCap_ge w (us.length + 1) cap E
    have hle := grownCap_le_maxLen w (us.length + 1) cap E h63
    refine ⟨_, _, _, _, hr, ⟨us ++ [u] ++ (Builtin.zeroCells z.cells (grownCap w (us.length + 1) cap E - (us.length + 1))).toList, ?_, by rw [List.length_append]; simpa using hge, hle, ?_, fun j v hv => ?_⟩, ⟨rfl, rfl, rfl, by simp, fun k hk _ => Go.RowKit.Below.heap_alloc w.drew _ k hk⟩, Or.inr rfl⟩
    · refine (heap_alloc_new w.drew _).trans ?_
      congr 2
      simp
    · have hzc : (Builtin.zeroCells z.cells (grownCap w (us.length + 1) cap E - (us.length + 1))).size = grownCap w (us.length + 1) cap E - (us.length + 1) := by rw [size_zeroCells, hz, Nat.mul_one]
      have hlen : 0 + grownCap w (us.length + 1) cap E ≤ (us ++ [u] ++ (Builtin.zeroCells z.cells (grownCap w (us.length + 1) cap E - (us.length + 1))).toList).length := by
        have e := (Array.length_toList (xs := Builtin.zeroCells z.cells (grownCap w (us.length + 1) cap E - (us.length + 1)))).trans hzc
        rw [List.length_append, List.length_append, e, List.length_singleton]
        omega
      exact hlen
    · rw [Nat.zero_add, List.getElem?_append_left (List.getElem?_eq_some_iff.1 hv).1]
      exact hv
theorem step_oo {P : Program} {ops : Array Oper} {o : Oper} {a : Act} {w : World} {K : Act → World → Prop} {Q : Exit → Act → World → Prop} {F : Prop} (S E : TypeId) (z : Value) (eb : Nat) (hu : P.underlying S = some (.slice E)) (hi : (P.info? E).map (fun i => (i.zero, i.size, i.bytes)) = some (some z, 1, eb)) (hz : z.cells.size = 1) (hgd : o.guard = none) (s x : Operand)
    (ho : o.op = .call { callee := .builtin .append, args := #[s, x], argTypes := #[S, S] }) {g oo cap n : Nat} {us : List Value} (hn : us.length = n) (hv : a.eval s = .slice (some ⟨g, oo, none⟩) n cap) (H : OO E w g oo cap us) {vx u : Value} (hx : a.eval x = vx) (L : Src P 1 S vx 1 [u] w) (hl : n + 1 ≤ 1000000) (hl2 : eb ≤ 100)
    (h : ∀ (g' o' cap' : Nat) (w' : World), OO E w' g' o' cap' (us ++ [u]) → w.grownBy w' (some g) → (g' = g ∨ g' = w.heap.size) → K (a.put o.dst (.slice (some ⟨g', o', none⟩) (n + 1) cap')) w') :
    if Region.wanted o (yielded ops a.tmps) = true then Oper.wp P o a w K Q else F := by
  subst hn
  have hw : Region.wanted o (yielded ops a.tmps) = true := by simp [Region.wanted, hgd]
  rw [if_pos hw]
  obtain ⟨g', o', cap', w', hr, h2, h3, h4⟩ := run_append_oo (P := P) w S o.type E z eb hu hi hz H vx u L (by unfold maxLen; omega) (Nat.le_trans (Nat.mul_le_mul hl hl2) (by decide))
  unfold Oper.wp execOp
  simp only [ho, resolve, invoke, builtin, Sem.run_bind, Sem.run_pure, Result.andThen_ok, List.map_toArray, List.map_cons, List.map_nil, hv, hx, hr]
  exact h g' o' cap' w' h2 h3 h4
/-- One inner row: the contents that it names lie in Z. -/
def MV (T Z : Nat → Prop) (w : World) (v : Value) (l : List (List Int)) : Prop := (v = .slice none 0 0 ∧ l = []) ∨ ∃ g o cap us, v = .slice (some ⟨g, o, none⟩) l.length cap ∧ T g ∧ OO 32 w g o cap us ∧ us.length = l.length ∧ ∀ (j : Nat) (u : Value) (b : List Int), us[j]? = some u → l[j]? = some b → CR Z w u b
theorem MV.keep {T Z : Nat → Prop} {w w' : World} {v : Value} {l : List (List Int)} (h : MV T Z w v l) (ht : ∀ g, v.ownBlock = some g → w'.heap[g]? = w.heap[g]?) (hz : Keeps Z w w') : MV T Z w' v l := by
  rcases h with h | ⟨g, o, cap, us, e, h1, h2, h3, h4⟩
  · exact Or.inl h
  · exact Or.inr ⟨g, o, cap, us, e, h1, h2.same (ht g (by rw [e]; rfl)), h3, fun j u b hu hb => (h4 j u b hu hb).keep hz⟩
theorem MV.mono {T T' Z Z' : Nat → Prop} {w : World} {v : Value} {l : List (List Int)} (h : MV T Z w v l) (ht : ∀ k, T k → k < w.heap.size → T' k) (hz : ∀ k, Z k → Z' k) : MV T' Z' w v l := by
  rcases h with h | ⟨g, o, cap, us, e, h1, h2, h3, h4⟩
  · exact Or.inl h
  · exact Or.inr ⟨g, o, cap, us, e, ht g h1 h2.lt, h2, h3, fun j u b hu hb => (h4 j u b hu hb).mono hz⟩
theorem MV.own {T Z : Nat → Prop} {w : World} {v : Value} {l : List (List Int)} {g : Nat} (h : MV T Z w v l) (hg : v.ownBlock = some g) : T g ∧ g < w.heap.size ∧ ∃ cur, w.heap[g]? = some (.cells cur 32 (0, 0)) := by
  rcases h with ⟨e, _⟩ | ⟨g2, o, cap, us, e, h1, h2, _⟩
  · rw [e] at hg; cases hg
  · rw [e] at hg
    simp only [Value.ownBlock, Option.some.injEq] at hg
    subst hg
    refine ⟨h1, h2.lt, ?_⟩
    obtain ⟨cur, h3, _⟩ := h2
    exact ⟨_, h3⟩
/-- The rows of rows in block gm: its blocks in T, the contents in Z. -/
structure MY (T Z : Nat → Prop) (w : World) (gm : Nat) (ls : List (List (List Int))) (vs : List Value) : Prop where
  tg : T gm
  box : w.heap[gm]? = some (.cells vs.toArray 39 (0, 0))
  vl : vs.length = ls.length
  val : ∀ (i : Nat) (v : Value) (l : List (List Int)), vs[i]? = some v → ls[i]? = some l → MV T Z w v l
  inj : ∀ (i k : Nat) (v u : Value) (g : Nat), vs[i]? = some v → vs[k]? = some u → v.ownBlock = some g → u.ownBlock = some g → i = k
  dis : ∀ k, T k → ¬ Z k
  tl : ∀ k, T k → k < w.heap.size
  zl : ∀ k, Z k → k < w.heap.size
section
variable {T Z : Nat → Prop} {w w' : World} {gm : Nat} {ls : List (List (List Int))} {vs : List Value}
theorem MY.get (h : MY T Z w gm ls vs) {i : Nat} (hi : i < ls.length) : ∃ v l, vs[i]? = some v ∧ ls[i]? = some l ∧ MV T Z w v l := by
  obtain ⟨v, hv⟩ : ∃ v, vs[i]? = some v := ⟨_, List.getElem?_eq_getElem (by have := h.vl; omega)⟩
  obtain ⟨l, hl⟩ : ∃ l, ls[i]? = some l := ⟨_, List.getElem?_eq_getElem hi⟩
  exact ⟨v, l, hv, hl, h.val i v l hv hl⟩
theorem MY.keep (h : MY T Z w gm ls vs) (k : Keeps (fun k => T k ∨ Z k) w w') : MY T Z w' gm ls vs :=
  ⟨h.tg, (k.2 gm (Or.inl h.tg) (h.tl gm h.tg)).trans h.box, h.vl, fun i v l hv hl => (h.val i v l hv hl).keep (fun g hg => by
    have h9 := (h.val i v l hv hl).own hg
    exact k.2 g (Or.inl h9.1) h9.2.1) ⟨k.1, fun q hq => k.2 q (Or.inr hq)⟩, h.inj, h.dis, fun q hq => Nat.lt_of_lt_of_le (h.tl q hq) k.1, fun q hq => Nat.lt_of_lt_of_le (h.zl q hq) k.1⟩
theorem MY.zmono (h : MY T Z w gm ls vs) {Z' : Nat → Prop} (hz : ∀ k, Z k → Z' k) (hd : ∀ k, T k → ¬ Z' k) (hl : ∀ k, Z' k → k < w.heap.size) : MY T Z' w gm ls vs :=
  ⟨h.tg, h.box, h.vl, fun i v l hv hl => (h.val i v l hv hl).mono (fun _ ht _ => ht) hz, h.inj, hd, h.tl, hl⟩
theorem MY.cell (h : MY T Z w gm ls vs) {i : Nat} {v : Value} (hv : vs[i]? = some v) : w.cell? ⟨gm, i, none⟩ = some v := cell_blk h.box hv
theorem MY.free (h : MY T Z w gm ls vs) (i : Nat) : w.frozen? ⟨gm, i, none⟩ = false := fr_blk h.box i
theorem MY.ne (h : MY T Z w gm ls vs) {i g : Nat} {v : Value} {l : List (List Int)} (hv : vs[i]? = some v) (hl : ls[i]? = some l) (hg : v.ownBlock = some g) : g ≠ gm := fun e => by
  obtain ⟨_, _, cur, h1⟩ := (h.val i v l hv hl).own hg
  rw [e, h.box] at h1
  simp only [Option.some.injEq, Obj.cells.injEq] at h1
  exact absurd h1.2.1 (by decide)
/-- The outer box behind an append to an inner row. -/
theorem MY.boxG (h : MY T Z w gm ls vs) {i : Nat} {v : Value} {l : List (List Int)} (hv : vs[i]? = some v) (hl : ls[i]? = some l) {row : Option Nat} (hr : row = none ∨ row = v.ownBlock) {w4 : World} (gr : w.grownBy w4 row) : w4.heap[gm]? = some (.cells vs.toArray 39 (0, 0)) := by
  refine (gr.block gm (h.tl gm h.tg) fun e => ?_).trans h.box
  rcases hr with e2 | e2
  · rw [e2] at e; cases e
  · exact h.ne hv hl (e2.symm.trans e.symm) rfl
theorem MY.step (h : MY T Z w gm ls vs) {i : Nat} {v : Value} {l : List (List Int)} (hv : vs[i]? = some v) (hl : ls[i]? = some l) {row : Option Nat} (hr : row = none ∨ row = v.ownBlock) {w4 : World} (gr : w.grownBy w4 row)
    {g' o' cap' n' : Nat} {us' : List Value} {l' : List (List Int)} (hn : l'.length = n') (hg : v.ownBlock = some g' ∨ (g' = w.heap.size)) (oo : OO 32 w4 g' o' cap' us') (hul : us'.length = l'.length) (hd : ∀ (j : Nat) (u : Value) (b : List Int), us'[j]? = some u → l'[j]? = some b → CR Z w u b) :
    MY (fun k => (T k ∨ k = w.heap.size) ∧ k < w4.heap.size) Z (w4.setCell ⟨gm, i, none⟩ (.slice (some ⟨g', o', none⟩) n' cap')) gm (ls.set i l') (vs.set i (.slice (some ⟨g', o', none⟩) n' cap')) := by
  subst hn
  have hsz : (w4.setCell ⟨gm, i, none⟩ (.slice (some ⟨g', o', none⟩) l'.length cap')).heap.size = w4.heap.size := by simp
  have ho : ∀ k, k ≠ gm → (w4.setCell ⟨gm, i, none⟩ (.slice (some ⟨g', o', none⟩) l'.length cap')).heap[k]? = w4.heap[k]? := fun k hk => set_blk (Ne.symm hk)
  have hrg : ∀ g, row = some g → T g ∧ g ≠ gm := fun g e => by
    rcases hr with e2 | e2
    · rw [e2] at e; cases e
    · rw [e2] at e; exact ⟨((h.val i v l hv hl).own e).1, h.ne hv hl e⟩
  have hzk : Keeps Z w (w4.setCell ⟨gm, i, none⟩ (.slice (some ⟨g', o', none⟩) l'.length cap')) := ⟨by rw [hsz]; exact gr.size, fun k hk hlt => (ho k (fun e => h.dis gm h.tg (e ▸ hk))).trans (gr.block k hlt fun e => h.dis k (hrg k e.symm).1 hk)⟩
  have hgm : g' ≠ gm := by
    rcases hg with e | e
    · exact h.ne hv hl e
    · have := h.tl gm h.tg; omega
  have htg : T g' ∨ g' = w.heap.size := by
    rcases hg with e | e
    · exact Or.inl ((h.val i v l hv hl).own e).1
    · exact Or.inr e
  have hvlen := h.vl
  have hi : i < vs.length := (List.getElem?_eq_some_iff.1 hv).1
  refine ⟨⟨Or.inl h.tg, Nat.lt_of_lt_of_le (h.tl gm h.tg) gr.size⟩, blk_setCell (h.boxG hv hl hr gr), by rw [List.length_set, List.length_set]; exact hvlen, ?_, ?_, ?_, fun k hk => by rw [hsz]; exact hk.2, fun k hk => by rw [hsz]; exact Nat.lt_of_lt_of_le (h.zl k hk) gr.size⟩
  · intro k v2 l2 h1 h2
    by_cases e : k = i
    · subst e
      rw [List.getElem?_set_self hi] at h1
      rw [List.getElem?_set_self (by omega)] at h2
      simp only [Option.some.injEq] at h1 h2
      subst h1 h2
      exact Or.inr ⟨g', o', cap', us', rfl, ⟨htg, oo.lt⟩, oo.same (ho g' hgm), hul, fun j u b hu hb => (hd j u b hu hb).keep hzk⟩
    · rw [List.getElem?_set_ne (Ne.symm e)] at h1 h2
      have h3 := h.val k v2 l2 h1 h2
      refine (h3.keep (fun g hg2 => ?_) hzk).mono (fun q hq _ => ⟨Or.inl hq, Nat.lt_of_lt_of_le (h.tl q hq) gr.size⟩) fun q hq => hq
      refine (ho g (h.ne h1 h2 hg2)).trans (gr.block g (h3.own hg2).2.1 fun e2 => ?_)
      rcases hr with e3 | e3
      · rw [e3] at e2; cases e2
      · exact e (h.inj k i v2 v g h1 hv hg2 (e3.symm.trans e2.symm))
  · intro a k v2 u2 g h1 h2 g1 g2
    have key : ∀ q x, q ≠ i → vs[q]? = some x → x.ownBlock = some g' → False := fun q x hq hx hxg => by
      rcases hg with e | e
      · exact hq (h.inj q i x v g' hx hv hxg e)
      · obtain ⟨lx, hlx⟩ : ∃ lx, ls[q]? = some lx := ⟨_, List.getElem?_eq_getElem (by have := (List.getElem?_eq_some_iff.1 hx).1; omega)⟩
        have := ((h.val q x lx hx hlx).own hxg).2.1
        omega
    by_cases e1 : a = i
    · by_cases e2 : k = i
      · rw [e1, e2]
      · rw [e1, List.getElem?_set_self hi] at h1
        simp only [Option.some.injEq] at h1
        rw [← h1] at g1
        simp only [Value.ownBlock, Option.some.injEq] at g1
        rw [List.getElem?_set_ne (Ne.symm e2)] at h2
        exact absurd (g1 ▸ g2) fun h => key k u2 e2 h2 h
    · rw [List.getElem?_set_ne (Ne.symm e1)] at h1
      by_cases e2 : k = i
      · rw [e2, List.getElem?_set_self hi] at h2
        simp only [Option.some.injEq] at h2
        rw [← h2] at g2
        simp only [Value.ownBlock, Option.some.injEq] at g2
        exact absurd (g2 ▸ g1) fun h => key a v2 e1 h1 h
      · rw [List.getElem?_set_ne (Ne.symm e2)] at h2
        exact h.inj a k v2 u2 g h1 h2 g1 g2
  · intro k hk hz
    rcases hk.1 with h1 | h1
    · exact h.dis k h1 hz
    · have := h.zl k hz; omega
end
end Go.Proofs.Yteceljhhhbmemaa

/- A disk and the rows of rows of what its sectors may hold, in one run. Bounds on sizes alone. -/
namespace Go.Proofs.Yteceljhhhbmemaa
open Go.RowKit
set_option maxRecDepth 100000
set_option maxHeartbeats 3200000

/-- The disk in P, the rows of rows apart from it; what came in lies below B0, what the run has made lies from w1 on. -/
def IA (I : PI) (B0 : Nat) (w1 : World) (b gm : Nat) (wr : World) (M : DM) (ls : List (List (List Int))) (vs : List Value) : Prop :=
  ∃ P T Z : Nat → Prop, I.DS P wr b M ∧ (∀ k, P k → w1.heap.size ≤ k ∧ k < wr.heap.size) ∧ MY T Z wr gm ls vs ∧ (∀ k, T k → w1.heap.size ≤ k ∧ ¬ P k) ∧ (∀ k, Z k → ¬ P k) ∧ (∀ k, k < B0 → Z k) ∧ B0 ≤ w1.heap.size ∧ Below w1.heap.size w1 wr
section
variable {I : PI} {B0 : Nat} {w1 : World} {b gm : Nat} {wr : World} {M : DM} {ls : List (List (List Int))} {vs : List Value}
theorem IA.bel (h : IA I B0 w1 b gm wr M ls vs) : Below w1.heap.size w1 wr := by
  obtain ⟨P, T, Z, _, _, _, _, _, _, _, h8⟩ := h
  exact h8
theorem IA.below (h : IA I B0 w1 b gm wr M ls vs) {w' : World} (hb : Below wr.heap.size wr w') : IA I B0 w1 b gm w' M ls vs := by
  obtain ⟨P, T, Z, h1, h2, h3, h4, h5, h6, h7, h8⟩ := h
  exact ⟨P, T, Z, I.keep h1 (keeps_belw hb), fun k hk => ⟨(h2 k hk).1, Nat.lt_of_lt_of_le (h2 k hk).2 hb.size⟩, h3.keep (keeps_belw hb), h4, h5, h6, h7, h8.trans (hb.mono h8.size)⟩
theorem IA.drewN (h : IA I B0 w1 b gm wr M ls vs) (m : Nat) : IA I B0 w1 b gm (wr.drewN m) M ls vs := h.below (bel_drewN (Below.refl _ _) m)
theorem IA.drew (h : IA I B0 w1 b gm wr M ls vs) : IA I B0 w1 b gm wr.drew M ls vs := h.below (Below.refl _ _).drew
theorem IA.alloc (h : IA I B0 w1 b gm wr M ls vs) (o : Obj) : IA I B0 w1 b gm (wr.alloc o) M ls vs := h.below (bel_alloc wr o)
/-- Cells of the outer row and of an inner one. -/
theorem IA.outer (h : IA I B0 w1 b gm wr M ls vs) {i : Nat} (hi : i < ls.length) : ∃ v l, vs[i]? = some v ∧ ls[i]? = some l ∧ (∀ m, (wr.drewN m).cell? ⟨gm, i, none⟩ = some v) ∧ wr.cell? ⟨gm, i, none⟩ = some v ∧ wr.frozen? ⟨gm, i, none⟩ = false ∧
    ((v = .slice none 0 0 ∧ l = []) ∨ ∃ g o cap us, v = .slice (some ⟨g, o, none⟩) l.length cap ∧ OO 32 wr g o cap us ∧ us.length = l.length ∧ ∀ (j : Nat) (u : Value) (b : List Int), us[j]? = some u → l[j]? = some b → Rd wr u (by8 b)) := by
  obtain ⟨P, T, Z, h1, h2, h3, h4, h5, h6, h7, h8⟩ := h
  obtain ⟨v, l, q1, q2, q3⟩ := h3.get hi
  refine ⟨v, l, q1, q2, fun m => h3.cell q1, h3.cell q1, h3.free i, ?_⟩
  rcases q3 with q | ⟨g, o, cap, us, e, _, a2, a3, a4⟩
  · exact Or.inl q
  · exact Or.inr ⟨g, o, cap, us, e, a2, a3, fun j u c hu hc => (a4 j u c hu hc).1⟩
/-- The block of the outer row. -/
theorem IA.box (h : IA I B0 w1 b gm wr M ls vs) : wr.heap[gm]? = some (.cells vs.toArray 39 (0, 0)) := by
  obtain ⟨P, T, Z, h1, h2, h3, _⟩ := h
  exact h3.box
/-- An operation of the disk. -/
theorem IA.op {P T Z : Nat → Prop} (h2 : ∀ k, P k → w1.heap.size ≤ k ∧ k < wr.heap.size) (h3 : MY T Z wr gm ls vs) (h4 : ∀ k, T k → w1.heap.size ≤ k ∧ ¬ P k) (h5 : ∀ k, Z k → ¬ P k) (h6 : ∀ k, k < B0 → Z k) (h7 : B0 ≤ w1.heap.size) (h8 : Below w1.heap.size w1 wr)
    {w' : World} {M' : DM} (d : I.DS (Nw P wr w') w' b M') (k : Kept P wr w') : IA I B0 w1 b gm w' M' ls vs := by
  refine ⟨_, T, Z, I.lt d, fun q hq => ⟨?_, hq.2⟩, h3.keep ⟨k.size, fun q hq hl => k.block q hl fun hp => ?_⟩, fun q hq => ⟨(h4 q hq).1, fun hp => ?_⟩, fun q hq hp => ?_, h6, h7, h8.trans (k.below h8.size fun q hq => (h2 q hq).1)⟩
  · rcases hq.1 with h | h
    · exact (h2 q h).1
    · have := h8.size; omega
  · rcases hq with h | h
    · exact (h4 q h).2 hp
    · exact h5 q h hp
  · rcases hp.1 with h | h
    · exact (h4 q hq).2 h
    · have := h3.tl q hq; omega
  · rcases hp.1 with h | h
    · exact h5 q hq h
    · have := h3.zl q hq; omega
/-- A local block above the run's own is not touched. -/
theorem IA.write (h : IA I B0 w1 b gm wr M ls vs) (lb : Nat) (o : Obj) (hlb : lb = wr.heap.size) {s : Int} (hs : R64 s) {bo : Option Addr} {bn bc : Nat} {l : List Int} (hc : M.cache.length < 1000000) (hr : Rd (wr.alloc o) (.slice bo bn bc) (by8 l)) (hi : 0 < l.length → In (fun k => k < B0) (.slice bo bn bc)) :
    Calls Try.prog 22 #[.pointer (some ⟨b, 0, none⟩), .int .i64 s, .slice bo bn bc] (wr.alloc o) fun e w' => e = .returned (.int .i64 (writeF M s l).1) ∧ IA I B0 w1 b gm w' (writeF M s l).2 ls vs ∧ w'.heap[lb]? = (wr.alloc o).heap[lb]? := by
  subst hlb
  obtain ⟨P, T, Z, h1, h2, h3, h4, h5, h6, h7, h8⟩ := h
  have ba := bel_alloc wr o
  have k1 := I.keep h1 (keeps_alloc P wr o)
  exact (I.write (fun k => k < B0) s hs bo bn bc l hc ⟨hr, hi⟩ (fun k hk hp => by have := (h2 k hp).1; omega) k1).mono fun e w' ⟨q1, q2, q3⟩ =>
    ⟨q1, IA.op (fun k hk => ⟨(h2 k hk).1, Nat.lt_of_lt_of_le (h2 k hk).2 ba.size⟩) (h3.keep (keeps_belw ba)) h4 h5 h6 h7 (h8.trans (ba.mono h8.size)) q2 q3, q3.block _ (by simp) fun hp => Nat.lt_irrefl _ (h2 _ hp).2⟩
theorem IA.sync (h : IA I B0 w1 b gm wr M ls vs) (lb : Nat) (o : Obj) (hlb : lb = wr.heap.size) (hc : M.cache.length ≤ 1000000) :
    Calls Try.prog 23 #[.pointer (some ⟨b, 0, none⟩)] (wr.alloc o) fun e w' => e = .returned (.int .i64 (syncF M).1) ∧ IA I B0 w1 b gm w' (syncF M).2 ls vs ∧ w'.heap[lb]? = (wr.alloc o).heap[lb]? := by
  subst hlb
  obtain ⟨P, T, Z, h1, h2, h3, h4, h5, h6, h7, h8⟩ := h
  have ba := bel_alloc wr o
  exact (I.sync hc (I.keep h1 (keeps_alloc P wr o))).mono fun e w' ⟨q1, q2, q3⟩ =>
    ⟨q1, IA.op (fun k hk => ⟨(h2 k hk).1, Nat.lt_of_lt_of_le (h2 k hk).2 ba.size⟩) (h3.keep (keeps_belw ba)) h4 h5 h6 h7 (h8.trans (ba.mono h8.size)) q2 q3, q3.block _ (by simp) fun hp => Nat.lt_irrefl _ (h2 _ hp).2⟩
theorem IA.fail (h : IA I B0 w1 b gm wr M ls vs) (lb : Nat) (o : Obj) (hlb : lb = wr.heap.size) {n : Int} (hn : R64 n) :
    Calls Try.prog 24 #[.pointer (some ⟨b, 0, none⟩), .int .i64 n] (wr.alloc o) fun e w' => e = .returned (.tuple #[]) ∧ IA I B0 w1 b gm w' (failF M n) ls vs ∧ w'.heap[lb]? = (wr.alloc o).heap[lb]? := by
  subst hlb
  obtain ⟨P, T, Z, h1, h2, h3, h4, h5, h6, h7, h8⟩ := h
  have ba := bel_alloc wr o
  exact (I.fail n hn (I.keep h1 (keeps_alloc P wr o))).mono fun e w' ⟨q1, q2, q3⟩ =>
    ⟨q1, IA.op (fun k hk => ⟨(h2 k hk).1, Nat.lt_of_lt_of_le (h2 k hk).2 ba.size⟩) (h3.keep (keeps_belw ba)) h4 h5 h6 h7 (h8.trans (ba.mono h8.size)) q2 q3, q3.block _ (by simp) fun hp => Nat.lt_irrefl _ (h2 _ hp).2⟩
theorem IA.crash (h : IA I B0 w1 b gm wr M ls vs) (hc : M.cache.length ≤ 1000000) {ko : Option Addr} {kn kc : Nat} {kp : List Bool} (hr : Rd wr (.slice ko kn kc) (bls kp)) (hi : 0 < (bls kp).length → In (fun k => k < B0) (.slice ko kn kc)) :
    Calls Try.prog 25 #[.pointer (some ⟨b, 0, none⟩), .slice ko kn kc] wr fun e w' => e = .returned (.tuple #[]) ∧ IA I B0 w1 b gm w' (crashF M kp) ls vs := by
  obtain ⟨P, T, Z, h1, h2, h3, h4, h5, h6, h7, h8⟩ := h
  exact (I.crash (fun k => k < B0) ko kn kc kp hc ⟨hr, hi⟩ (fun k hk hp => by have := (h2 k hp).1; omega) h1).mono fun e w' ⟨q1, q2, q3⟩ => ⟨q1, IA.op h2 h3 h4 h5 h6 h7 h8 q2 q3⟩
theorem IA.read (h : IA I B0 w1 b gm wr M ls vs) (hc : M.cache.length ≤ 1000000) {s : Int} (hs : R64 s) :
    Calls Try.prog 19 #[.pointer (some ⟨b, 0, none⟩), .int .i64 s] wr fun e w' => ∃ y n c, e = .returned (.tuple #[.slice y n c, .int .i64 (readF M s).2]) ∧ Rd w' (.slice y n c) (by8 (readF M s).1) ∧ Below wr.heap.size wr w' := by
  obtain ⟨P, T, Z, h1, _⟩ := h
  exact (I.read s hs hc h1).mono fun e w' ⟨⟨y, n, c, q1, q2, q3⟩, _⟩ => ⟨y, n, c, q1, q2, q3⟩
/-- A store into the outer row: the inner row has grown, or is cut. -/
theorem IA.step (h : IA I B0 w1 b gm wr M ls vs) {i : Nat} {v : Value} {l : List (List Int)} (hv : vs[i]? = some v) (hl : ls[i]? = some l) {row : Option Nat} (hr : row = none ∨ row = v.ownBlock) {w4 : World} (gr : wr.grownBy w4 row)
    {g' o' cap' n' : Nat} {us' : List Value} {l' : List (List Int)} (hn : l'.length = n') (hg : v.ownBlock = some g' ∨ (g' = wr.heap.size)) (oo : OO 32 w4 g' o' cap' us') (hul : us'.length = l'.length)
    (hd : ∀ (j : Nat) (u : Value) (b : List Int), us'[j]? = some u → l'[j]? = some b → (∃ (us : List Value) (k g o cap : Nat), v = .slice (some ⟨g, o, none⟩) l.length cap ∧ OO 32 wr g o cap us ∧ us[k]? = some u ∧ l[k]? = some b) ∨ CR (fun k => k < B0) wr u b) :
    IA I B0 w1 b gm (w4.setCell ⟨gm, i, none⟩ (.slice (some ⟨g', o', none⟩) n' cap')) M (ls.set i l') (vs.set i (.slice (some ⟨g', o', none⟩) n' cap')) := by
  obtain ⟨P, T, Z, h1, h2, h3, h4, h5, h6, h7, h8⟩ := h
  have key : ∀ (us : List Value) (k g o cap : Nat) (u : Value) (c : List Int), v = .slice (some ⟨g, o, none⟩) l.length cap → OO 32 wr g o cap us → us[k]? = some u → l[k]? = some c → CR Z wr u c := by
    intro us k g o cap u c e oo2 hu hc
    rcases h3.val i v l hv hl with ⟨e2, _⟩ | ⟨g2, o2, cap2, us2, e2, _, a2, a3, a4⟩
    · rw [e2] at e; cases e
    · rw [e] at e2
      simp only [Value.slice.injEq, Option.some.injEq, Addr.mk.injEq] at e2
      obtain ⟨⟨rfl, rfl, _⟩, _, rfl⟩ := e2
      have hk : k < us2.length := by have := (List.getElem?_eq_some_iff.1 hc).1; omega
      have e3 : us2[k]? = some u := by
        have c1 := a2.cell (List.getElem?_eq_getElem hk)
        rw [oo2.cell hu] at c1
        rw [List.getElem?_eq_getElem hk, ← Option.some.inj c1]
      exact a4 k u c e3 hc
  have hrt : ∀ k, row = some k → T k := fun k e => by
    rcases hr with e2 | e2
    · rw [e2] at e; cases e
    · rw [e2] at e; exact ((h3.val i v l hv hl).own e).1
  have st := h3.step hv hl hr gr hn hg oo hul (fun j u c hu hc => by
    rcases hd j u c hu hc with ⟨us, k, g, o, cap, e, q, a1, a2⟩ | q
    · exact key us k g o cap u c e q a1 a2
    · exact q.mono h6)
  have kp : Keeps P wr (w4.setCell ⟨gm, i, none⟩ (.slice (some ⟨g', o', none⟩) n' cap')) := ⟨by simpa using gr.size, fun k hk hl => (set_blk (fun e : gm = k => (h4 gm h3.tg).2 (by rw [e]; exact hk))).trans (gr.block k hl fun e => (h4 k (hrt k e.symm)).2 hk)⟩
  have b4 : Below w1.heap.size w1 w4 := h8.trans ⟨gr.os, gr.tape, gr.output, gr.size, fun k hk => gr.block k (by have := h8.size; omega) fun e => by have := (h4 k (hrt k e.symm)).1; omega⟩
  refine ⟨P, _, Z, I.keep h1 kp, fun k hk => ⟨(h2 k hk).1, Nat.lt_of_lt_of_le (h2 k hk).2 kp.1⟩, st, fun k hk => ?_, h5, h6, h7, b4.setCell (h4 gm h3.tg).1 _⟩
  rcases hk.1 with h | h
  · exact h4 k h
  · exact ⟨by have := h8.size; omega, fun hp => by have := (h2 k hp).2; omega⟩
end
end Go.Proofs.Yteceljhhhbmemaa
