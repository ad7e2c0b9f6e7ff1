/- The law on texts. Bounds on sizes alone. -/
import Derived.Test.YtdmjlmlmdllhgaaDoorLexQtx
import Derived.Test.YtdmjlmlmdllhgaaDoorLexTin
namespace Go.Proofs.YtdmjlmlmdllhgaaDoor
open Go.RowKit

theorem dec_short : ∀ (k n : Nat), n < 10 ^ k → 0 < k → (Lib.decDigits n).length ≤ k := by
  intro k
  induction k with
  | zero => intro n _ h; omega
  | succ k ih =>
    intro n hn _
    by_cases h : n < 10
    · rw [Lib.decDigits_one h]; show 1 ≤ k + 1; omega
    · rw [Lib.decDigits, dif_neg h, List.length_append]
      have hk : 0 < k := by
        rcases Nat.eq_zero_or_pos k with h0 | h0
        · subst h0; simp at hn; omega
        · exact h0
      have := ih (n / 10) (by rw [Nat.pow_succ] at hn; omega) hk
      show _ + 1 ≤ k + 1
      omega
theorem itoa_short (n : Int) (h0 : -9223372036854775808 ≤ n) (h1 : n ≤ 9223372036854775807) : (Lib.itoa n).length ≤ 21 := by
  unfold Lib.itoa
  split
  · rw [List.length_cons]
    have := dec_short 20 n.natAbs (by have : (10 : Nat) ^ 20 = 100000000000000000000 := by decide
                                      omega) (by omega)
    omega
  · have := dec_short 20 n.toNat (by have : (10 : Nat) ^ 20 = 100000000000000000000 := by decide
                                     omega) (by omega)
    omega
theorem spell_short {t : T4} (hx : t.text.size ≤ 100) (h0 : -9223372036854775808 ≤ t.n) (h1 : t.n ≤ 9223372036854775807) : (spell t).size ≤ 1000 := by
  unfold spell
  split
  · have := itoa_short t.n h0 h1
    rw [← sz_list]
    show (Lib.itoa t.n).length ≤ 1000
    omega
  · split
    · rw [ByteArray.size_append, ByteArray.size_append]
      show 1 + _ + 1 ≤ _
      omega
    · omega
set_option maxRecDepth 100000 in
set_option maxHeartbeats 3200000 in
theorem texts_law (a : Option Addr) (n cap : Nat) (z : List T4) (w : World) (hG : Glob w) (hI : TksIn w a n cap z) : Calls Tryd.prog 7 #[.slice a n cap] w fun e w' => e = .returned (.bool true) ∧ Below w.heap.size w w' := by
  have AW := hid_of (awake_any w hG)
  obtain ⟨hzn, hR, hzb⟩ := hI
  have hcut := hR.cut
  by_cases hs : 200 < n
  · have d1 : decide ((n : Int) > 200) = true := decide_eq_true (by omega)
    have d1' : decide (200 < n) = true := decide_eq_true hs
    clear hs hcut hR hzn hzb hG
    go_enter Tryd.func7, Tryd.ntmps7
    go_wp2_with (go_at_call 14; ((with_reducible refine (AW.out).mono ?_); (rintro e w1 ⟨rfl, h1⟩; have B1 := hid_of h1; clear h1)))
    go_ret
    exact ⟨rfl, B1.out⟩
  have d1 : decide ((n : Int) > 200) = false := decide_eq_false (by omega)
  have d1' : decide (200 < n) = false := decide_eq_false hs
  have HR := hid_of hR
  have HZ := hid_of hzn
  have HB := hid_of hzb
  have HGL := hid_of hG
  have HN := hid_of hs
  have hnn : (n : Int) ≤ 200 := by omega
  have HC : Hid (∀ i w1, i < n → Below w.heap.size w w1 → ∃ (g o : Nat) (tx : ByteArray), a = some ⟨g, o, none⟩ ∧ (∀ h : i < z.length, z[i].text = tx) ∧ w1.cell? ⟨g, o + i * 4 + 1, none⟩ = some (.string tx)) := hid_of (fun i w1 hi hb => by
    have h1 : i < z.length := by omega
    obtain ⟨g, o, e, _, r, _⟩ := (hR.at hb).get (i := i) (t := T4.q z[i]) (by rw [qs4, List.getElem?_map, List.getElem?_eq_getElem h1]; rfl)
    exact ⟨g, o, _, e, fun _ => rfl, r⟩)
  clear hG hzn hR hzb hcut hs
  go_enter Tryd.func7, Tryd.ntmps7
  go_wp2_with (go_at_call 14; ((with_reducible refine (AW.out).mono ?_); (rintro e w1 ⟨rfl, h1⟩; have B1 := hid_of h1; clear h1)))
  clear AW
  go_loop [3] (fun iv => ∃ (i : Nat), i ≤ n ∧ iv = .int .i64 i ∧ Hid (∀ j, j < i → ∀ h : j < z.length, z[j].text.size ≤ 100)) (fun iv => n - (intOf iv).toNat)
  case atStart => exact ⟨0, Nat.zero_le _, rfl, hid_of (fun j hj => by omega)⟩
  case round =>
    obtain ⟨i, hi, rfl, hall⟩ := hrel
    by_cases hlt : i < n
    · have d2 : decide (i < n) = true := decide_eq_true hlt
      have i1 : (i : Int) < (n : Int) := by omega
      obtain ⟨g, o, tx, rfl, htx, c1⟩ := HC.out i w1 hlt B1.out
      by_cases h100 : 100 < tx.size
      · have d3 : decide ((tx.size : Int) > 100) = true := decide_eq_true (by omega)
        have d3' : decide (100 < tx.size) = true := decide_eq_true h100
        clear h100 htx HR
        go_wp2
        go_ret
        exact ⟨rfl, B1.out⟩
      · have d3 : decide ((tx.size : Int) > 100) = false := decide_eq_false (by omega)
        have d3' : decide (100 < tx.size) = false := decide_eq_false h100
        have HN1 : Hid (∀ j, j < i + 1 → ∀ h : j < z.length, z[j].text.size ≤ 100) := hid_of (fun j hj h => by
          by_cases e : j = i
          · subst e; rw [htx h]; omega
          · exact hall.out j (by omega) h)
        clear h100 htx HR
        go_wp2
        go_round
        case rel => exact ⟨i + 1, by omega, by go_num, HN1⟩
        case measure => simp [intOf]; omega
    · obtain rfl : i = n := by omega
      have d2 : decide (i < i) = false := by simp
      have hx : ∀ t ∈ z, t.text.size ≤ 100 := fun t ht => by
        obtain ⟨j, hj, rfl⟩ := List.getElem_of_mem ht
        exact hall.out j (by have := HZ.out; omega) hj
      have hsm : ∀ t ∈ z, Sm t := fun t ht => ⟨by have := hx t ht; omega, (HB.out t ht).1, (HB.out t ht).2⟩
      have hsp : ∀ t ∈ z, (spell t).size ≤ 1000 := fun t ht => spell_short (hx t ht) (HB.out t ht).1 (HB.out t ht).2
      have hzl : z.length ≤ 200 := by have h1 := HZ.out; have h2 := HN.out; omega
      have hj : (Lib.join ((words z.dropLast).map (·.data.toList)) [32]).length ≤ 140737488355328 := by
        have h1 := jn_size (B := 1000) (ws := words z.dropLast) (fun x hx => by
          obtain ⟨t, ht, rfl⟩ := List.mem_map.1 hx
          rw [dl_take] at ht
          exact hsp t (List.mem_of_mem_take ht))
        rw [← sz_list, jn_list] at h1
        have h2 : (words z.dropLast).length ≤ 200 := by simp [words]; omega
        omega
      obtain ⟨S, hS⟩ : ∃ S, S = (txF z).1 := ⟨_, rfl⟩
      obtain ⟨E, hE⟩ : ∃ E, E = (txF z).2 := ⟨_, rfl⟩
      have T1 : Hid (∀ w1, Below w.heap.size w w1 → Calls Tryd.prog 24 #[.slice a i cap] w1 fun e w2 => e = .returned (.tuple #[.string S, .int .i64 E]) ∧ Below w1.heap.size w1 w2) := hid_of (fun w1 h => (text_any z a i cap w1 (HR.out.at h) hsm (HGL.out.at h) (by omega) hj).mono fun e w2 h3 => by unfold TxP at h3; rw [← hS, ← hE] at h3; exact h3)
      have T2 : Hid (∀ w1, Below w.heap.size w w1 → Calls Tryd.prog 25 #[.slice a i cap] w1 fun e w2 => e = .returned (.tuple #[.string S, .int .i64 E]) ∧ Below w1.heap.size w1 w2) := hid_of (fun w1 h => (qtext_any z a i cap w1 (HR.out.at h) hsm hsp (by omega)).mono fun e w2 h3 => by unfold TxP at h3; rw [← hS, ← hE] at h3; exact h3)
      by_cases h0 : E = 0
      · have hg : goodB z = true ∧ ¬ 65536 < (joinT z).size := by
          rw [hE] at h0
          cases h1 : goodB z with
          | false => rw [txF_bad h1] at h0; cases h0
          | true =>
            refine ⟨rfl, fun h2 => ?_⟩
            rw [txF_lim h1 h2] at h0; cases h0
        have hSj : S = joinT z := by rw [hS, txF_ok hg.1 hg.2]
        subst h0
        obtain ⟨r1, r2⟩ := read_text hg.1
        rw [← hSj] at r1 r2
        have hSz : S.size ≤ 65536 := by rw [hSj]; have := hg.2; omega
        obtain ⟨Q, hQ⟩ : ∃ Q, Q = Lx S 0 := ⟨_, rfl⟩
        have hokQ := lx_ok S _ 0 rfl (Nat.zero_le _)
        rw [← hQ] at r1 r2 hokQ
        have hml : Q.1.length = i := by have h1 := HZ.out; have h2 := congrArg List.length r2; simp only [List.length_map] at h2; omega
        have LY : Hid (∀ w1, Below w.heap.size w w1 → Calls Tryd.prog 21 #[.string S] w1 (L4 (Q.1.map Tok.t4) i 0 0 w1)) := hid_of (fun w1 h => (lex_any S w1 hSz (HGL.out.at h)).mono fun e w' h2 => by rw [← hml]; exact l4_of Q (fun h => (hokQ.2.1 h).1) r1.symm (if_pos r1).symm w1 e w' (by rw [hQ]; exact h2))
        have SM : Hid (∀ bo yc w1, QRd w1 (.slice bo i yc) (qs4 (Q.1.map Tok.t4)) → Below w.heap.size w w1 → Calls Tryd.prog 23 #[.slice bo i yc, .slice a i cap, .bool false] w1 (BlP true w1)) := hid_of (fun bo yc w1 h1 h2 => qsame_any false _ _ bo a i i yc cap w1 h1 (HR.out.at h2) (keys_eqs (by rw [map_key]; exact r2)))
        clear hx hsm hsp hzl hj hS hE hg hSj r1 r2 hSz hQ hokQ hml hlt hall HR HC HZ HB HGL HN hi
        go_wp2_with (first
          | (go_at_call 24; ((with_reducible refine (T1.out _ B1.out).mono ?_); (rintro e w2 ⟨rfl, h1⟩; have B2 := hid_of (step_b B1.out h1); clear h1)))
          | (go_at_call 25; ((with_reducible refine (T2.out _ B2.out).mono ?_); (rintro e w3 ⟨rfl, h1⟩; have B3 := hid_of (step_b B2.out h1); clear h1)))
          | (go_at_call 21; ((with_reducible refine (LY.out _ B3.out).mono ?_); (rintro e w4 ⟨yo, yc, rfl, h1, h2⟩; have B4 := hid_of (step_al (step_b B3.out h1) (.cells #[.int .i64 0, .int .i64 0] 28)); have SMX := hid_of (SM.out _ _ _ (h2.at (bel_alloc w4 (.cells #[.int .i64 0, .int .i64 0] 28))) B4.out); clear h1 h2)))
          | (go_at_call 23; ((with_reducible refine (SMX.out).mono ?_); (rintro e w6 ⟨rfl, h1⟩; have B6 := hid_of (step_b B4.out h1); clear h1))))
        go_ret
        exact ⟨rfl, B6.out⟩
      · have dE : (E != 0) = true := by simpa using h0
        clear hx hsm hsp hzl hj hS hE h0 hlt hall HR HC HZ HB HGL HN hi
        go_wp2_with (first
          | (go_at_call 24; ((with_reducible refine (T1.out _ B1.out).mono ?_); (rintro e w2 ⟨rfl, h1⟩; have B2 := hid_of (step_b B1.out h1); clear h1)))
          | (go_at_call 25; ((with_reducible refine (T2.out _ B2.out).mono ?_); (rintro e w3 ⟨rfl, h1⟩; have B3 := hid_of (step_b B2.out h1); clear h1))))
        go_ret
        exact ⟨rfl, B3.out⟩
end Go.Proofs.YtdmjlmlmdllhgaaDoor
