/- Text of the program. Bounds on sizes alone. -/
import Derived.Test.YtdmjlmlmdllhgaaDoorLexSpa
namespace Go.Proofs.YtdmjlmlmdllhgaaDoor
open Go.RowKit

theorem lstrE : Elem Tryd.prog 47 9 (.string ⟨#[]⟩) 16 := ⟨Tryd.underlying47, by kernel_rfl, rfl⟩
/-- Whether tokens can be written: all are possible, and the last alone is the end. -/
def goodB : List T4 → Bool
  | [] => false
  | [t] => okF t && decide (t.kind = 6)
  | t :: u :: r => okF t && !decide (t.kind = 6) && goodB (u :: r)
def words (l : List T4) : List ByteArray := l.map spell
/-- The words, separated by blanks. -/
def joinT (l : List T4) : ByteArray := ⟨(Lib.join ((words l.dropLast).map (·.data.toList)) [32]).toArray⟩
/-- The text of tokens, and the error. -/
def txF (l : List T4) : ByteArray × Int := if goodB l = true then (if 65536 < (joinT l).size then (⟨#[]⟩, 6) else (joinT l, 0)) else (⟨#[]⟩, 1)
def TxP (l : List T4) (w : World) (e : Ending) (w' : World) : Prop := e = .returned (.tuple #[.string (txF l).1, .int .i64 (txF l).2]) ∧ Below w.heap.size w w'
theorem good_last {t : T4} : goodB [t] = (okF t && decide (t.kind = 6)) := rfl
theorem good_more {t : T4} {r : List T4} (h : r ≠ []) : goodB (t :: r) = (okF t && !decide (t.kind = 6) && goodB r) := by
  cases r with
  | nil => exact absurd rfl h
  | cons u r => rfl
theorem drop_at {l : List T4} {i : Nat} (h : i < l.length) : l.drop i = l[i] :: l.drop (i + 1) := List.drop_eq_getElem_cons h
/-- What is known of the tokens in front of place i. -/
def Gd (l : List T4) (i : Nat) : Prop := (i < l.length → goodB (l.drop i) = goodB l) ∧ (i = l.length → 0 < l.length → goodB l = true)
theorem gd_zero (l : List T4) : Gd l 0 := ⟨fun _ => rfl, fun h h2 => by omega⟩
theorem Gd.bad {l : List T4} {i : Nat} (h : Gd l i) (hi : i < l.length) (ho : okF l[i] = false) : goodB l = false := by
  rw [← h.1 hi, drop_at hi]
  by_cases e : l.drop (i + 1) = []
  · rw [e, good_last, ho]; rfl
  · rw [good_more e, ho]; rfl
theorem Gd.early {l : List T4} {i : Nat} (h : Gd l i) (hi : i < l.length) (hk : l[i].kind = 6) (hl : i + 1 ≠ l.length) : goodB l = false := by
  have e : l.drop (i + 1) ≠ [] := fun e => by have := List.drop_eq_nil_iff.1 e; omega
  rw [← h.1 hi, drop_at hi, good_more e, decide_eq_true hk]
  simp
theorem Gd.late {l : List T4} {i : Nat} (h : Gd l i) (hi : i < l.length) (hk : l[i].kind ≠ 6) (hl : i + 1 = l.length) : goodB l = false := by
  have e : l.drop (i + 1) = [] := List.drop_eq_nil_iff.2 (by omega)
  rw [← h.1 hi, drop_at hi, e, good_last, decide_eq_false hk]
  simp
theorem Gd.next {l : List T4} {i : Nat} (h : Gd l i) (hi : i < l.length) (ho : okF l[i] = true) (hk : l[i].kind = 6 ↔ i + 1 = l.length) : Gd l (i + 1) := by
  have h1 := h.1 hi
  rw [drop_at hi] at h1
  refine ⟨fun h2 => ?_, fun h2 h3 => ?_⟩
  · have e : l.drop (i + 1) ≠ [] := fun e => by have := List.drop_eq_nil_iff.1 e; omega
    rw [good_more e, ho, decide_eq_false (fun h => by have := hk.1 h; omega)] at h1
    simpa using h1
  · have e : l.drop (i + 1) = [] := List.drop_eq_nil_iff.2 (by omega)
    rw [e, good_last, ho, decide_eq_true (hk.2 h2)] at h1
    exact h1.symm
theorem words_snoc {l : List T4} {i : Nat} (hi : i < l.length) : words (l.take (i + 1)) = words (l.take i) ++ [spell l[i]] := by
  unfold words
  rw [List.take_succ_eq_append_getElem hi, List.map_append]
  rfl
theorem strs_len (l : List ByteArray) : (strs l).length = l.length := by simp [strs]
theorem words_len (l : List T4) (i : Nat) (h : i ≤ l.length) : (words (l.take i)).length = i := by simp [words]; omega
theorem strs_snoc (l : List ByteArray) (x : ByteArray) : strs (l ++ [x]) = strs l ++ [.string x] := by simp [strs]
theorem txF_bad {l : List T4} (h : goodB l = false) : txF l = (⟨#[]⟩, 1) := by rw [txF, h]; rfl
theorem txF_lim {l : List T4} (h : goodB l = true) (h2 : 65536 < (joinT l).size) : txF l = (⟨#[]⟩, 6) := by rw [txF, if_pos h, if_pos h2]
theorem txF_ok {l : List T4} (h : goodB l = true) (h2 : ¬ 65536 < (joinT l).size) : txF l = (joinT l, 0) := by rw [txF, if_pos h, if_neg h2]
theorem dl_take (l : List T4) : l.dropLast = l.take (l.length - 1) := List.dropLast_eq_take
set_option maxRecDepth 100000 in
set_option maxHeartbeats 3200000 in
theorem text_any (l : List T4) (ao : Option Addr) (n c : Nat) (w : World) (R : QRd w (.slice ao n c) (qs4 l)) (hsm : ∀ t ∈ l, Sm t) (hG : Glob w) (hl : l.length ≤ 100000) (hj : (Lib.join ((words l.dropLast).map (·.data.toList)) [32]).length ≤ 140737488355328) :
    Calls Tryd.prog 24 #[.slice ao n c] w (TxP l w) := by
  have q1 := R.cut
  have hln : n = l.length := by rw [q1.1]; simp [qs4]
  obtain ⟨R0, hR0⟩ : ∃ R0, R0 = txF l := ⟨_, rfl⟩
  have HRR : Hid ((fun e w' => e = Ending.returned (.tuple #[.string R0.1, .int .i64 R0.2]) ∧ Below w.heap.size w w') = TxP l w) := hid_of (by rw [hR0]; rfl)
  rw [← HRR.out]
  have HR := hid_of hR0
  have HC : Hid (∀ i, i < n → ∃ (k : Int) (tx : ByteArray) (v p : Int) (g o : Nat), ao = some ⟨g, o, none⟩ ∧ (∀ hi : i < l.length, l[i] = ⟨k, tx, v, p⟩) ∧ Sm ⟨k, tx, v, p⟩ ∧ g < w.heap.size ∧ ∀ w1, Below w.heap.size w w1 → w1.cell? ⟨g, o + i * 4, none⟩ = some (.int .i64 k) ∧ w1.cell? ⟨g, o + i * 4 + 1, none⟩ = some (.string tx) ∧ w1.cell? ⟨g, o + i * 4 + 2, none⟩ = some (.int .i64 v) ∧ w1.cell? ⟨g, o + i * 4 + 3, none⟩ = some (.int .i64 p)) := hid_of (fun i hi => by
    have h1 : i < l.length := by omega
    have e1 : (qs4 l)[i]? = some (T4.q l[i]) := by simp [qs4, List.getElem?_map, List.getElem?_eq_getElem h1]
    obtain ⟨g, o, r1, s1, _⟩ := R.get e1
    refine ⟨l[i].kind, l[i].text, l[i].n, l[i].place, g, o, r1, fun _ => rfl, hsm _ (List.getElem_mem h1), World.block_lt_of_cell? w _ s1, fun w1 hb => ?_⟩
    obtain ⟨g', o', r1', r2, r3, r4, r5⟩ := (R.at hb).get e1
    rw [r1] at r1'
    simp only [Option.some.injEq, Addr.mk.injEq, and_true] at r1'
    obtain ⟨rfl, rfl⟩ := r1'
    exact ⟨r2, r3, r4, r5⟩)
  have HSP : Hid (∀ t w1, Sm t → Below w.heap.size w w1 → Calls Tryd.prog 36 #[t.v] w1 (SpP (okF t) (spell t) w1)) := hid_of (fun t w1 h1 h2 => sp_any t h1 w1 (hG.at h2))
  have HLN := hid_of hln
  have HL := hid_of hl
  have hn5 : n ≤ 100000 := by omega
  have HJ := hid_of hj
  clear q1 hR0 R hsm hG hj hln hl
  go_enter Tryd.func24, Tryd.ntmps24
  go_wp2
  go_loopw [4, 16] (fun xv iv wr => ∃ (i : Nat) (xo : Option Addr) (xc : Nat), iv = .int .i64 i ∧ xv = .slice xo i xc ∧ i ≤ n ∧ Hid (Gd l i) ∧ Hid (Ow 9 w.heap.size w wr (.slice xo i xc) (strs (words (l.take i))))) (fun _ iv _ => n - (intOf iv).toNat)
  case atStart => exact ⟨0, none, 0, rfl, rfl, Nat.zero_le _, hid_of (gd_zero l), hid_of (by simp only [List.take_zero]; exact ow_nil _ _)⟩
  case round =>
    obtain ⟨i, xo, xc, rfl, rfl, hi, hgd, how⟩ := hrel
    by_cases hlt : i < n
    · have d1 : decide (i < n) = true := decide_eq_true hlt
      have hlt' : (i : Int) < (n : Int) := by omega
      have HLT : Hid (i < l.length) := hid_of (by rw [← HLN.out]; exact hlt)
      obtain ⟨k, tx, v, p, g, o, rfl, ht, hsm, hg, hc⟩ := HC.out i hlt
      have HT := hid_of (ht HLT.out)
      obtain ⟨r1, r2, r3, r4⟩ := hc wr how.out.bel
      obtain ⟨ok, hok⟩ : ∃ ok, ok = okF ⟨k, tx, v, p⟩ := ⟨_, rfl⟩
      obtain ⟨sp, hsp⟩ : ∃ sp, sp = spell ⟨k, tx, v, p⟩ := ⟨_, rfl⟩
      have SPC : Hid (Calls Tryd.prog 36 #[.agg #[.int .i64 k, .string tx, .int .i64 v, .int .i64 p]] (wr.alloc (.cells #[.int .i64 k, .string tx, .int .i64 v, .int .i64 p] 25)) (SpP ok sp (wr.alloc (.cells #[.int .i64 k, .string tx, .int .i64 v, .int .i64 p] 25)))) := hid_of (by rw [hok, hsp]; exact HSP.out ⟨k, tx, v, p⟩ _ hsm (how.out.bel.trans ((bel_alloc wr _).mono how.out.size)))
      have HOK := hid_of hok
      have HSPL := hid_of hsp
      have HK0 : Hid (∀ w1, Below (wr.alloc (.cells #[.int .i64 k, .string tx, .int .i64 v, .int .i64 p] 25)).heap.size (wr.alloc (.cells #[.int .i64 k, .string tx, .int .i64 v, .int .i64 p] 25)) w1 → w1.cell? ⟨wr.heap.size, 0, none⟩ = some (.int .i64 k)) := hid_of (fun w1 h => (row4 ((h.block wr.heap.size (by simp)).trans (heap_alloc_new wr (.cells #[.int .i64 k, .string tx, .int .i64 v, .int .i64 p] 25)))).1)
      have HB0 : Hid (Below w.heap.size w (wr.alloc (.cells #[.int .i64 k, .string tx, .int .i64 v, .int .i64 p] 25))) := hid_of (how.out.bel.trans ((bel_alloc wr _).mono how.out.size))
      have HOA : Hid (Ow 9 w.heap.size w (wr.alloc (.cells #[.int .i64 k, .string tx, .int .i64 v, .int .i64 p] 25)) (.slice xo i xc) (strs (words (l.take i)))) := hid_of (how.out.alloc _)
      clear HC hc hok hsp hlt hsm ht hg
      cases ok
      · have GE : Hid (R0 = (⟨#[]⟩, 1)) := hid_of (by rw [HR.out]; exact txF_bad (hgd.out.bad HLT.out (by rw [HT.out]; exact HOK.out.symm)))
        go_wp2_with (go_at_call 36; ((with_reducible refine (SPC.out).mono ?_); (rintro e w1 ⟨x, rfl, h1, h2⟩; have B1 := hid_of h2; have k0 := HK0.out w1 h2; clear h1 h2)))
        go_ret2
        exact ⟨by rw [GE.out] <;> rfl, HB0.out.trans (B1.out.mono HB0.out.size)⟩
      · by_cases hk6 : k = 6
        · have dk : (k == 6) = true := by rw [hk6]; rfl
          by_cases hlast : i + 1 = n
          · have dl : ((i : Int) == (n : Int) - 1) = true := by simp; omega
            have GN := hid_of (hgd.out.next HLT.out (by rw [HT.out]; exact HOK.out.symm) ⟨fun _ => by rw [← HLN.out]; exact hlast, fun _ => by rw [HT.out]; exact hk6⟩)
            clear hk6 hlast
            go_wp2_with (first
              | (go_at_call 36; ((with_reducible refine (SPC.out).mono ?_); (rintro e w1 ⟨x, rfl, h1, h2⟩; have HX := hid_of (h1 rfl); have B1 := hid_of h2; have k0 := HK0.out w1 h2; have O1 := hid_of (HOA.out.later h2); clear h1 h2)))
              | (at_builtin; ((refine wpList_app lstrE rfl (.tmp 37) (.tmp 39) rfl (v := .slice xo i xc) (l := strs (words (l.take i))) rfl (O1.out.alloc _) (vx := .slice (some ⟨w1.heap.size, 0, none⟩) 1 1) (m := [.string x]) rfl (rd_new rfl rfl (by simp)) (by intro u hu; rw [List.mem_singleton.1 hu]; rfl) (by rw [strs_len, words_len _ _ (Nat.le_of_lt HLT.out)]; have := HLT.out; have := HL.out; simp only [List.length_singleton]; omega) (by rw [strs_len, words_len _ _ (Nat.le_of_lt HLT.out)]; have := HLT.out; have := HL.out; simp only [List.length_singleton]; omega) ?_); intro ao2 n2 c2 w6 h5 h6; have hn2 : n2 = i + 1 := (by rw [h5, strs_len, words_len _ _ (Nat.le_of_lt HLT.out)]; rfl); subst hn2; have O6 := hid_of h6; clear h5 h6)))
            go_roundw
            case rel => exact ⟨i + 1, ao2, c2, by go_num, rfl, by have := HLT.out; have := HLN.out; omega, GN, hid_of (by rw [words_snoc HLT.out, strs_snoc, HT.out, ← HSPL.out, ← HX.out]; exact O6.out)⟩
            case measure => have := HLT.out; have := HLN.out; simp [intOf]; omega
          · have dl : ((i : Int) == (n : Int) - 1) = false := by simp; omega
            have GE : Hid (R0 = (⟨#[]⟩, 1)) := hid_of (by rw [HR.out]; exact txF_bad (hgd.out.early HLT.out (by rw [HT.out]; exact hk6) (by rw [← HLN.out]; exact hlast)))
            clear hk6 hlast
            go_wp2_with (go_at_call 36; ((with_reducible refine (SPC.out).mono ?_); (rintro e w1 ⟨x, rfl, h1, h2⟩; have HX := hid_of (h1 rfl); have B1 := hid_of h2; have k0 := HK0.out w1 h2; have O1 := hid_of (HOA.out.later h2); clear h1 h2)))
            go_ret2
            exact ⟨by rw [GE.out] <;> rfl, HB0.out.trans (B1.out.mono HB0.out.size)⟩
        · have dk : (k == 6) = false := by simpa using hk6
          by_cases hlast : i + 1 = n
          · have dl : ((i : Int) == (n : Int) - 1) = true := by simp; omega
            have GE : Hid (R0 = (⟨#[]⟩, 1)) := hid_of (by rw [HR.out]; exact txF_bad (hgd.out.late HLT.out (by rw [HT.out]; exact hk6) (by rw [← HLN.out]; exact hlast)))
            clear hk6 hlast
            go_wp2_with (go_at_call 36; ((with_reducible refine (SPC.out).mono ?_); (rintro e w1 ⟨x, rfl, h1, h2⟩; have HX := hid_of (h1 rfl); have B1 := hid_of h2; have k0 := HK0.out w1 h2; have O1 := hid_of (HOA.out.later h2); clear h1 h2)))
            go_ret2
            exact ⟨by rw [GE.out] <;> rfl, HB0.out.trans (B1.out.mono HB0.out.size)⟩
          · have dl : ((i : Int) == (n : Int) - 1) = false := by simp; omega
            have GN := hid_of (hgd.out.next HLT.out (by rw [HT.out]; exact HOK.out.symm) ⟨fun h => by rw [HT.out] at h; exact absurd h hk6, fun h => by rw [← HLN.out] at h; exact absurd h hlast⟩)
            clear hk6 hlast
            go_wp2_with (first
              | (go_at_call 36; ((with_reducible refine (SPC.out).mono ?_); (rintro e w1 ⟨x, rfl, h1, h2⟩; have HX := hid_of (h1 rfl); have B1 := hid_of h2; have k0 := HK0.out w1 h2; have O1 := hid_of (HOA.out.later h2); clear h1 h2)))
              | (at_builtin; ((refine wpList_app lstrE rfl (.tmp 37) (.tmp 39) rfl (v := .slice xo i xc) (l := strs (words (l.take i))) rfl (O1.out.alloc _) (vx := .slice (some ⟨w1.heap.size, 0, none⟩) 1 1) (m := [.string x]) rfl (rd_new rfl rfl (by simp)) (by intro u hu; rw [List.mem_singleton.1 hu]; rfl) (by rw [strs_len, words_len _ _ (Nat.le_of_lt HLT.out)]; have := HLT.out; have := HL.out; simp only [List.length_singleton]; omega) (by rw [strs_len, words_len _ _ (Nat.le_of_lt HLT.out)]; have := HLT.out; have := HL.out; simp only [List.length_singleton]; omega) ?_); intro ao2 n2 c2 w6 h5 h6; have hn2 : n2 = i + 1 := (by rw [h5, strs_len, words_len _ _ (Nat.le_of_lt HLT.out)]; rfl); subst hn2; have O6 := hid_of h6; clear h5 h6)))
            go_roundw
            case rel => exact ⟨i + 1, ao2, c2, by go_num, rfl, by have := HLT.out; have := HLN.out; omega, GN, hid_of (by rw [words_snoc HLT.out, strs_snoc, HT.out, ← HSPL.out, ← HX.out]; exact O6.out)⟩
            case measure => have := HLT.out; have := HLN.out; simp [intOf]; omega
    · obtain rfl : i = n := by omega
      have d1 : decide (i < i) = false := by simp
      by_cases h0 : i = 0
      · have GE : Hid (R0 = (⟨#[]⟩, 1)) := hid_of (by rw [HR.out]; exact txF_bad (by have h2 := HLN.out; rw [h0] at h2; cases l with | nil => rfl | cons a b => simp at h2))
        have d2 : ((i : Int) == 0) = true := by rw [h0]; rfl
        have HB1 := hid_of how.out.bel
        clear hlt h0
        go_wp2
        go_ret2
        exact ⟨by rw [GE.out] <;> rfl, HB1.out⟩
      · have d2 : ((i : Int) == 0) = false := by simp; omega
        have HGB : Hid (goodB l = true) := hid_of (hgd.out.2 HLN.out (by rw [← HLN.out]; omega))
        have hi1 : (1 : Int) ≤ (i : Int) := by omega
        obtain ⟨m, hm⟩ : ∃ m, i = m + 1 := ⟨i - 1, by omega⟩
        have hme : (i : Int) - 1 = (m : Int) := by omega
        obtain ⟨J, hJ⟩ : ∃ J, J = joinT l := ⟨_, rfl⟩
        have JC : Hid (∃ g o, xo = some ⟨g, o, none⟩ ∧ Calls Tryd.prog 37 #[.slice (some ⟨g, o, none⟩) m xc, .string ⟨#[32]⟩] wr fun e w' => e = .returned (.string J) ∧ Below wr.heap.size wr w') := hid_of (by
          have hrd := how.out.rd (by rw [strs_len, words_len _ _ (by rw [HLN.out]; exact Nat.le_refl _)]; omega)
          obtain ⟨ao2, cap, e, h2, h3, h4⟩ := hrd
          have hwl : (strs (words (l.take i))).length = i := by rw [strs_len, words_len _ _ (by rw [← HLN.out]; exact Nat.le_refl _)]
          obtain ⟨g, o, q1, q2, q3⟩ := h4 (by rw [hwl]; omega)
          simp only [Value.slice.injEq] at e
          obtain ⟨e1, e2, e3⟩ := e
          refine ⟨g, o, by rw [e1, q1], ?_⟩
          have hdl : l.dropLast = l.take m := by rw [dl_take, ← HLN.out, hm]; rfl
          have hxl : (words (l.take m)).length = m := words_len _ _ (by rw [← HLN.out]; omega)
          have hjn := sh_strings_Join g o xc (words (l.take m)) ⟨#[32]⟩ wr (fun j x hx => q3 j (.string x) (by
            have hjm : j < m := by have := (List.getElem?_eq_some_iff.1 hx).1; omega
            rw [strs, List.getElem?_map]
            have : (words (l.take i))[j]? = some x := by
              rw [← hx]; unfold words; rw [List.getElem?_map, List.getElem?_map, List.getElem?_take_of_lt (by omega), List.getElem?_take_of_lt (by omega)]
            rw [this]; rfl)) q2 (by rw [hxl]; omega) (by rw [hxl, e3]; omega) (by rw [← hdl]; exact HJ.out)
          rw [hxl] at hjn
          rw [hJ, joinT, hdl]
          exact hjn)
        have HR2 : Hid (65536 < J.size → R0 = (⟨#[]⟩, 6)) := hid_of (fun h => by rw [HR.out]; exact txF_lim HGB.out (by rw [← hJ]; exact h))
        have HR3 : Hid (¬ 65536 < J.size → R0 = (J, 0)) := hid_of (fun h => by rw [HR.out, hJ]; exact txF_ok HGB.out (by rw [← hJ]; exact h))
        have hmi : m ≤ i := by omega
        have hcc : Hid (i ≤ xc) := hid_of (by obtain ⟨ao2, cap, e, h2, _⟩ := how.out.rd (by rw [strs_len, words_len _ _ (by rw [HLN.out]; exact Nat.le_refl _)]; omega); simp only [Value.slice.injEq] at e; omega)
        have hic : (m : Int) ≤ (xc : Int) := by have := hcc.out; omega
        have HB1 := hid_of how.out.bel
        have HSZ := hid_of how.out.size
        obtain ⟨g, o, rfl, JCC⟩ := JC.out
        have JCH := hid_of JCC
        clear hlt h0 hm hJ JC JCC
        by_cases hbig : 65536 < J.size
        · have GE := hid_of (HR2.out hbig)
          have d3 : decide ((J.size : Int) > 65536) = true := decide_eq_true (by omega)
          clear hbig
          go_wp2_with (go_at_call 37; ((with_reducible refine (JCH.out).mono ?_); (rintro e w1 ⟨rfl, h2⟩; have B1 := hid_of h2; clear h2)))
          go_ret2
          exact ⟨by rw [GE.out] <;> rfl, HB1.out.trans (B1.out.mono HSZ.out)⟩
        · have GE := hid_of (HR3.out hbig)
          have d3 : decide ((J.size : Int) > 65536) = false := decide_eq_false (by omega)
          clear hbig
          go_wp2_with (go_at_call 37; ((with_reducible refine (JCH.out).mono ?_); (rintro e w1 ⟨rfl, h2⟩; have B1 := hid_of h2; clear h2)))
          go_ret2
          exact ⟨by rw [GE.out] <;> rfl, HB1.out.trans (B1.out.mono HSZ.out)⟩
end Go.Proofs.YtdmjlmlmdllhgaaDoor
