/- The reference's text of a list of tokens. Bounds on sizes alone. -/
import Derived.Test.YtdmjlmlmdllhgaaDoorLexQsp
namespace Go.Proofs.YtdmjlmlmdllhgaaDoor
open Go.RowKit

/-- Words with a blank between any two. -/
def jn (ws : List ByteArray) : ByteArray := ⟨(Lib.join (ws.map (·.data.toList)) [32]).toArray⟩
theorem jn_list (ws : List ByteArray) : (jn ws).data.toList = Lib.join (ws.map (·.data.toList)) [32] := rfl
theorem jn_T (l : List T4) : joinT l = jn (words l.dropLast) := rfl
theorem jn_one (x : ByteArray) : jn [x] = x := by
  apply ba_ext
  rw [jn_list, List.map_singleton, Lib.join_one]
theorem join_snoc {ws : List (List UInt8)} (h : ws ≠ []) (x : List UInt8) : Lib.join (ws ++ [x]) [32] = Lib.join ws [32] ++ [32] ++ x := by
  cases ws with
  | nil => exact absurd rfl h
  | cons y ys =>
    rw [List.cons_append, Lib.join_cons, Lib.join_cons]
    unfold Lib.joinTail
    rw [List.map_append, List.flatten_append]
    simp
theorem jn_snoc {ws : List ByteArray} (h : ws ≠ []) (x : ByteArray) : jn (ws ++ [x]) = jn ws ++ ⟨#[32]⟩ ++ x := by
  apply ba_ext
  rw [app_list, app_list, jn_list, jn_list, List.map_append, List.map_singleton, join_snoc (by simpa using h)]
theorem tail_size {B : Nat} : ∀ {ws : List (List UInt8)}, (∀ x ∈ ws, x.length ≤ B) → (Lib.joinTail [32] ws).length ≤ (B + 1) * ws.length := by
  intro ws
  induction ws with
  | nil => intro _; exact Nat.zero_le _
  | cons y ys ih =>
    intro h
    have h1 := h y (by simp)
    have h2 := ih (fun x hx => h x (by simp [hx]))
    have e : Lib.joinTail [32] (y :: ys) = 32 :: (y ++ Lib.joinTail [32] ys) := by unfold Lib.joinTail; rfl
    rw [e, List.length_cons, List.length_append, List.length_cons, Nat.mul_add]
    omega
theorem jn_size {B : Nat} {ws : List ByteArray} (h : ∀ x ∈ ws, x.size ≤ B) : (jn ws).size ≤ (B + 1) * ws.length := by
  rw [← sz_list, jn_list]
  cases ws with
  | nil => exact Nat.zero_le _
  | cons y ys =>
    rw [List.map_cons, Lib.join_cons, List.length_append, sz_list]
    have h1 := h y (by simp)
    have h2 := tail_size (B := B) (ws := ys.map (·.data.toList)) (fun x hx => by
      obtain ⟨z, hz, rfl⟩ := List.mem_map.1 hx
      rw [sz_list]; exact h z (by simp [hz]))
    rw [List.length_map] at h2
    rw [List.length_cons, Nat.mul_add]
    omega
theorem good_end : ∀ {l : List T4} {m : Nat}, m + 1 = l.length → goodB l = true → ∀ h : m < l.length, okF l[m] = true ∧ l[m].kind = 6 := by
  intro l
  induction l with
  | nil => intro m hm _ h; simp at h
  | cons x r ih =>
    intro m hm hg h
    by_cases hr : r = []
    · subst hr
      have h0 : m = 0 := by simpa using hm
      subst h0
      rw [good_last, Bool.and_eq_true] at hg
      exact ⟨hg.1, of_decide_eq_true hg.2⟩
    · rw [good_more hr, Bool.and_eq_true] at hg
      have hl := List.length_pos_iff.2 hr
      obtain ⟨k, rfl⟩ : ∃ k, m = k + 1 := ⟨m - 1, by simp at hm; omega⟩
      exact ih (by simp at hm; omega) hg.2 (by simp at h; omega)
set_option maxRecDepth 100000 in
set_option maxHeartbeats 3200000 in
theorem qtext_nil (ao : Option Addr) (c : Nat) (w : World) : Calls Tryd.prog 25 #[.slice ao 0 c] w (TxP [] w) := by
  have a6 : IntKind.i64.wrap ((0 : Int) - 1) = -1 := by decide
  go_enter Tryd.func25, Tryd.ntmps25
  go_wp2
  go_ret2
  exact ⟨rfl, Below.refl _ _⟩
set_option maxRecDepth 100000 in
set_option maxHeartbeats 3200000 in
theorem qtext_bad (l : List T4) (ao : Option Addr) (n m c : Nat) (w : World) (R : QRd w (.slice ao n c) (qs4 l)) (hm : n = m + 1) (hl : n ≤ 100000) (k : Int) (tx : ByteArray) (v p : Int) (ht : l[m]? = some ⟨k, tx, v, p⟩) (hb : k ≠ 6 ∨ (k = 6 ∧ tx ≠ ⟨#[]⟩) ∨ (k = 6 ∧ tx = ⟨#[]⟩ ∧ v ≠ 0)) :
    Calls Tryd.prog 25 #[.slice ao n c] w fun e w' => e = .returned (.tuple #[.string ⟨#[]⟩, .int .i64 1]) ∧ Below w.heap.size w w' := by
  obtain ⟨g, o, rfl, c0, c1, c2, c3⟩ := R.get (i := m) (t := T4.q ⟨k, tx, v, p⟩) (by rw [qs4, List.getElem?_map, ht]; rfl)
  replace c0 : w.cell? ⟨g, o + m * 4, none⟩ = some (.int .i64 k) := c0
  replace c1 : w.cell? ⟨g, o + m * 4 + 1, none⟩ = some (.string tx) := c1
  replace c2 : w.cell? ⟨g, o + m * 4 + 2, none⟩ = some (.int .i64 v) := c2
  have a6 : IntKind.i64.wrap ((n : Int) - 1) = (m : Int) := by rw [IntWalk.i64_in _ (by omega)]; omega
  have a7 : (m : Int) < (n : Int) := by omega
  have a8 : (0 : Int) ≤ (m : Int) := by omega
  have d0 : decide ((m : Int) < 0) = false := decide_eq_false (by omega)
  clear R c3 hm hl ht
  rcases hb with hb | ⟨rfl, hb⟩ | ⟨rfl, rfl, hb⟩
  · have d1 : (k != 6) = true := by simpa using hb
    clear hb
    go_enter Tryd.func25, Tryd.ntmps25
    go_wp2
    go_ret2
    exact ⟨rfl, Below.refl _ _⟩
  · have d1 : tx.toList ≠ [] := txt_ne hb
    have d2 : (tx.toList == []) = false := by simpa using d1
    have d3 : (tx.toList != []) = true := by simpa using d1
    clear hb
    go_enter Tryd.func25, Tryd.ntmps25
    go_wp2
    go_ret2
    exact ⟨rfl, Below.refl _ _⟩
  · have d1 : (v != 0) = true := by simpa using hb
    clear hb
    go_enter Tryd.func25, Tryd.ntmps25
    go_wp2
    go_ret2
    exact ⟨rfl, Below.refl _ _⟩
set_option maxRecDepth 100000 in
set_option maxHeartbeats 3200000 in
theorem qtext_go (l : List T4) (ao : Option Addr) (n m c : Nat) (w : World) (R : QRd w (.slice ao n c) (qs4 l)) (hm : n = m + 1) (hl : n ≤ 1000) (hsm : ∀ t ∈ l, Sm t) (hsz : ∀ t ∈ l, (spell t).size ≤ 1000) (p : Int) (ht : l[m]? = some ⟨6, ⟨#[]⟩, 0, p⟩) :
    Calls Tryd.prog 25 #[.slice ao n c] w (TxP l w) := by
  have q1 := R.cut
  have hln : n = l.length := by rw [q1.1]; simp [qs4]
  obtain ⟨R0, hR0⟩ : ∃ R0, R0 = txF l := ⟨_, rfl⟩
  have HRR : Hid ((fun e w' => e = Ending.returned (.tuple #[.string R0.1, .int .i64 R0.2]) ∧ Below w.heap.size w w') = TxP l w) := hid_of (by rw [hR0]; rfl)
  rw [← HRR.out]
  have HR := hid_of hR0
  have HLN := hid_of hln
  have HM := hid_of hm
  have HL := hid_of hl
  obtain ⟨g, o, rfl, c0, c1, c2, _⟩ := R.get (i := m) (t := T4.q ⟨6, ⟨#[]⟩, 0, p⟩) (by rw [qs4, List.getElem?_map, ht]; rfl)
  replace c0 : w.cell? ⟨g, o + m * 4, none⟩ = some (.int .i64 6) := c0
  replace c1 : w.cell? ⟨g, o + m * 4 + 1, none⟩ = some (.string ⟨#[]⟩) := c1
  replace c2 : w.cell? ⟨g, o + m * 4 + 2, none⟩ = some (.int .i64 0) := c2
  have HC : Hid (∀ i w1, i < n → Below w.heap.size w w1 → ∃ (k : Int) (tx : ByteArray) (v q : Int), l[i]? = some ⟨k, tx, v, q⟩ ∧ Sm ⟨k, tx, v, q⟩ ∧ w1.cell? ⟨g, o + i * 4, none⟩ = some (.int .i64 k) ∧ w1.cell? ⟨g, o + i * 4 + 1, none⟩ = some (.string tx) ∧ w1.cell? ⟨g, o + i * 4 + 2, none⟩ = some (.int .i64 v) ∧ w1.cell? ⟨g, o + i * 4 + 3, none⟩ = some (.int .i64 q)) := hid_of (fun i w1 hi hb => by
    have h1 : i < l.length := by omega
    obtain ⟨g2, o2, e, r⟩ := (R.at hb).get (i := i) (t := T4.q l[i]) (by rw [qs4, List.getElem?_map, List.getElem?_eq_getElem h1]; rfl)
    cases e
    have hs := hsm l[i] (List.getElem_mem h1)
    have he := List.getElem?_eq_getElem h1
    generalize l[i] = t at he hs r
    obtain ⟨k, tx, v, q⟩ := t
    exact ⟨k, tx, v, q, he, hs, r⟩)
  have HWL : Hid (∀ i, i ≤ n → (jn (words (l.take i))).size ≤ 1001 * i) := hid_of (fun i hi => by
    have h1 := jn_size (B := 1000) (ws := words (l.take i)) (fun x hx => by
      obtain ⟨t, ht, rfl⟩ := List.mem_map.1 hx
      exact hsz t (List.mem_of_mem_take ht))
    rwa [words_len _ _ (by omega)] at h1)
  have HSZ := hid_of hsz
  have HLT6 := hid_of ht
  have a6 : IntKind.i64.wrap ((n : Int) - 1) = (m : Int) := by rw [IntWalk.i64_in _ (by omega)]; omega
  have a7 : (m : Int) < (n : Int) := by omega
  have a8 : (0 : Int) ≤ (m : Int) := by omega
  have hm2 : (m : Int) ≤ 1000 := by omega
  have d0 : decide ((m : Int) < 0) = false := decide_eq_false (by omega)
  clear R q1 hln hR0 hm hl hsm hsz ht
  go_enter Tryd.func25, Tryd.ntmps25
  go_wp2
  go_loopw [5, 6] (fun xv iv wr => ∃ (i : Nat) (X : ByteArray), xv = .string X ∧ iv = .int .i64 i ∧ i ≤ m ∧ Hid (X = jn (words (l.take i))) ∧ Hid (Gd l i) ∧ Hid (Below w.heap.size w wr)) (fun _ iv _ => m - (intOf iv).toNat)
  case atStart => exact ⟨0, ⟨#[]⟩, rfl, rfl, Nat.zero_le _, hid_of rfl, hid_of (gd_zero l), hid_of (Below.refl _ _)⟩
  case round =>
    clear c0 c1 c2
    obtain ⟨i, X, rfl, rfl, him, hX, hgd, hbw⟩ := hrel
    by_cases hlt : i < m
    · have d1 : decide (i < m) = true := decide_eq_true hlt
      obtain ⟨k, tx, v, q, he, hs, r0, r1, r2, r3⟩ := HC.out i wr (by omega) hbw.out
      have i1 : (i : Int) < (n : Int) := by omega
      have i2 : (i : Int) ≤ 1000 := by omega
      have HIL : Hid (i < l.length) := hid_of (List.getElem?_eq_some_iff.1 he).1
      have HIE : Hid (l[i]'HIL.out = ⟨k, tx, v, q⟩) := hid_of (List.getElem?_eq_some_iff.1 he).2
      obtain ⟨ok, hok⟩ : ∃ ok, ok = okQ ⟨k, tx, v, q⟩ := ⟨_, rfl⟩
      obtain ⟨sp, hsp⟩ : ∃ sp, sp = spell ⟨k, tx, v, q⟩ := ⟨_, rfl⟩
      have SPC : Hid (Calls Tryd.prog 26 #[.agg #[.int .i64 k, .string tx, .int .i64 v, .int .i64 q]] wr (SpP ok sp wr)) := hid_of (by rw [hok, hsp]; exact qsp_any ⟨k, tx, v, q⟩ hs wr)
      have HIM := hid_of hlt
      cases ok with
      | false =>
        have GE : Hid (R0 = (⟨#[]⟩, 1)) := hid_of (by
          rw [HR.out]
          refine txF_bad ?_
          unfold okQ at hok
          cases hf : okF ⟨k, tx, v, q⟩ with
          | false => exact hgd.out.bad HIL.out (by rw [HIE.out]; exact hf)
          | true =>
            rw [hf, Bool.true_and] at hok
            have h6 : k = 6 := by simpa using hok.symm
            have h1 := HLN.out
            have h2 := HM.out
            exact hgd.out.early HIL.out (by rw [HIE.out]; exact h6) (by omega))
        clear he hs hok hsp hlt
        go_wp2_with (go_at_call 26; ((with_reducible refine (SPC.out).mono ?_); (rintro e w1 ⟨x, rfl, h1, h2⟩; have B1 := hid_of h2; clear h1 h2)))
        go_ret2
        exact ⟨by rw [GE.out] <;> rfl, step_b hbw.out B1.out⟩
      | true =>
        have hq : okF ⟨k, tx, v, q⟩ = true ∧ k ≠ 6 := by
          unfold okQ at hok
          have := hok.symm
          simpa using this
        have GN : Hid (Gd l (i + 1)) := hid_of (hgd.out.next HIL.out (by rw [HIE.out]; exact hq.1) ⟨fun h => by rw [HIE.out] at h; exact absurd h hq.2, fun h => by have h1 := HLN.out; have h2 := HM.out; omega⟩)
        have HSP := hid_of hsp
        have hspz : sp.size ≤ 1000 := by rw [hsp, ← HIE.out]; exact HSZ.out _ (List.getElem_mem HIL.out)
        have hXz : X.size ≤ 1001 * i := by rw [hX.out]; exact HWL.out i (by omega)
        have z1 : (⟨#[32]⟩ : ByteArray).size = 1 := rfl
        have SPC2 : Hid (Calls Tryd.prog 26 #[.agg #[.int .i64 k, .string tx, .int .i64 v, .int .i64 q]] wr fun e w1 => e = .returned (.tuple #[.string sp, .bool true]) ∧ Below wr.heap.size wr w1) := hid_of (SPC.out.mono fun e w1 h => by
          obtain ⟨x, e1, e2, e3⟩ := h
          rw [e2 rfl] at e1
          exact ⟨e1, e3⟩)
        by_cases h0 : i = 0
        · have d2 : decide ((i : Int) > 0) = false := decide_eq_false (by omega)
          have d2' : decide (0 < i) = false := decide_eq_false (by omega)
          have hX0 : X = ⟨#[]⟩ := by rw [hX.out, h0]; rfl
          subst hX0
          have A1 : ∀ W, (Op.stringOp .add ⟨#[]⟩ sp).run Tryd.prog W = .ok (.string (⟨#[]⟩ ++ sp)) W := fun W => run_string_add_sum W _ _ (by show 0 + _ ≤ _; omega)
          have HXN : Hid ((⟨#[]⟩ : ByteArray) ++ sp = jn (words (l.take (i + 1)))) := hid_of (by
            rw [words_snoc HIL.out, HIE.out, ← HSP.out, h0, List.take_zero]
            show _ = jn [sp]
            rw [jn_one]
            apply ba_ext
            rw [app_list]; rfl)
          clear he hs hok hsp hq hspz hXz z1 SPC hlt h0
          go_wp2_with (go_at_call 26; ((with_reducible refine (SPC2.out).mono ?_); (rintro e w1 ⟨rfl, h2⟩; have B1 := hid_of h2; clear h2)))
          go_roundw
          case rel => exact ⟨i + 1, _, rfl, by go_num, by have := HIM.out; omega, HXN, GN, hid_of (step_b hbw.out B1.out)⟩
          case measure => have := HIM.out; simp [intOf]; omega
        · have d2 : decide ((i : Int) > 0) = true := decide_eq_true (by omega)
          have d2' : decide (0 < i) = true := decide_eq_true (by omega)
          have A1 : ∀ W, (Op.stringOp .add X ⟨#[32]⟩).run Tryd.prog W = .ok (.string (X ++ ⟨#[32]⟩)) W := fun W => run_string_add_sum W _ _ (by rw [z1]; omega)
          have A2 : ∀ W, (Op.stringOp .add (X ++ ⟨#[32]⟩) sp).run Tryd.prog W = .ok (.string (X ++ ⟨#[32]⟩ ++ sp)) W := fun W => run_string_add_sum W _ _ (by rw [ByteArray.size_append, z1]; omega)
          have HXN : Hid (X ++ ⟨#[32]⟩ ++ sp = jn (words (l.take (i + 1)))) := hid_of (by
            rw [words_snoc HIL.out, HIE.out, ← HSP.out, jn_snoc (fun e => by have h1 := words_len l i (Nat.le_of_lt HIL.out); rw [e] at h1; exact h0 h1.symm), ← hX.out])
          clear he hs hok hsp hq hspz hXz z1 SPC hlt h0
          go_wp2_with (go_at_call 26; ((with_reducible refine (SPC2.out).mono ?_); (rintro e w1 ⟨rfl, h2⟩; have B1 := hid_of h2; clear h2)))
          go_roundw
          case rel => exact ⟨i + 1, _, rfl, by go_num, by have := HIM.out; omega, HXN, GN, hid_of (step_b hbw.out B1.out)⟩
          case measure => have := HIM.out; simp [intOf]; omega
    · obtain rfl : i = m := by omega
      have d1 : decide (i < i) = false := by simp
      have HG : Hid (goodB l = true) := hid_of (by
        have h1 := HLN.out
        have h2 := HM.out
        have hi : i < l.length := by omega
        have he : l[i] = ⟨6, ⟨#[]⟩, 0, p⟩ := (List.getElem?_eq_some_iff.1 HLT6.out).2
        have := hgd.out.next hi (by rw [he]; rfl) ⟨fun _ => by omega, fun _ => by rw [he]⟩
        exact this.2 (by omega) (by omega))
      have HJ : Hid (X = joinT l) := hid_of (by
        rw [hX.out, jn_T, dl_take]
        have h1 := HLN.out
        have h2 := HM.out
        rw [show l.length - 1 = i by omega])
      by_cases hb : 65536 < X.size
      · have d2 : decide ((X.size : Int) > 65536) = true := decide_eq_true (by omega)
        have GE : Hid (R0 = (⟨#[]⟩, 6)) := hid_of (by rw [HR.out]; exact txF_lim HG.out (by rw [← HJ.out]; exact hb))
        clear hb hlt
        go_wp2
        go_ret2
        exact ⟨by rw [GE.out] <;> rfl, hbw.out⟩
      · have d2 : decide ((X.size : Int) > 65536) = false := decide_eq_false (by omega)
        have GE : Hid (R0 = (X, 0)) := hid_of (by rw [HR.out, HJ.out]; exact txF_ok HG.out (by rw [← HJ.out]; exact hb))
        clear hb hlt
        go_wp2
        go_ret2
        exact ⟨by rw [GE.out] <;> rfl, hbw.out⟩
theorem qtext_any (l : List T4) (ao : Option Addr) (n c : Nat) (w : World) (R : QRd w (.slice ao n c) (qs4 l)) (hsm : ∀ t ∈ l, Sm t) (hsz : ∀ t ∈ l, (spell t).size ≤ 1000) (hl : l.length ≤ 1000) :
    Calls Tryd.prog 25 #[.slice ao n c] w (TxP l w) := by
  have hln : n = l.length := by rw [R.cut.1]; simp [qs4]
  by_cases h0 : l = []
  · subst h0
    subst hln
    exact qtext_nil ao c w
  · have hp := List.length_pos_iff.2 h0
    obtain ⟨m, hm⟩ : ∃ m, n = m + 1 := ⟨n - 1, by omega⟩
    have hml : m < l.length := by omega
    have he := List.getElem?_eq_getElem hml
    have hgood := fun h => good_end (l := l) (m := m) (by omega) h hml
    generalize l[m] = t at he hgood
    obtain ⟨k, tx, v, p⟩ := t
    by_cases hb : k ≠ 6 ∨ (k = 6 ∧ tx ≠ ⟨#[]⟩) ∨ (k = 6 ∧ tx = ⟨#[]⟩ ∧ v ≠ 0)
    · refine (qtext_bad l ao n m c w R hm (by omega) k tx v p he hb).mono fun e w' h => ?_
      have hg : goodB l = false := by
        cases h2 : goodB l with
        | false => rfl
        | true =>
          obtain ⟨h3, h4⟩ := hgood h2
          simp only at h4
          subst h4
          rw [ok6, Bool.and_eq_true] at h3
          have e1 : tx = ⟨#[]⟩ := of_decide_eq_true h3.1
          have e2 : v = 0 := of_decide_eq_true h3.2
          rcases hb with hb | ⟨_, hb⟩ | ⟨_, _, hb⟩
          · exact absurd rfl hb
          · exact absurd e1 hb
          · exact absurd e2 hb
      unfold TxP
      rw [txF_bad hg]
      exact h
    · have h6 : k = 6 := Decidable.not_not.1 (fun h => hb (.inl h))
      subst h6
      have hx : tx = ⟨#[]⟩ := Decidable.not_not.1 (fun h => hb (.inr (.inl ⟨rfl, h⟩)))
      subst hx
      have hv : v = 0 := Decidable.not_not.1 (fun h => hb (.inr (.inr ⟨rfl, rfl, h⟩)))
      subst hv
      exact qtext_go l ao n m c w R hm (by omega) hsm hsz p he
end Go.Proofs.YtdmjlmlmdllhgaaDoor
