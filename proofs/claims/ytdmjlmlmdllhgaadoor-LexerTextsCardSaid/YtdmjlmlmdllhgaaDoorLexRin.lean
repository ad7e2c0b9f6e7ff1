/- The reference: keywords and signs. Bounds on sizes alone. -/
import Derived.Test.YtdmjlmlmdllhgaaDoorLexRch
namespace Go.Proofs.YtdmjlmlmdllhgaaDoor
open Go.RowKit

/-- A list of strings is returned. -/
def SlP (l : List ByteArray) (w : World) (e : Ending) (w' : World) : Prop := ∃ g n, e = .returned (.slice (some ⟨g, 0, none⟩) n n) ∧ n = l.length ∧ Rd w' (.slice (some ⟨g, 0, none⟩) n n) (strs l) ∧ Below w.heap.size w w'
theorem slp_mk {l : List ByteArray} {w : World} {n : Nat} {cs : Array Value} {t : TypeId} (hn : n = l.length) (hc : cs = (strs l).toArray) (h : l.length ≤ 1000) : SlP l w (.returned (.slice (some ⟨w.heap.size, 0, none⟩) n n)) (w.alloc (.cells cs t)) :=
  ⟨_, n, rfl, hn, rd_new (by rw [hn]; simp [strs]) hc (by simp [strs]; omega), bel_alloc _ _⟩
set_option maxRecDepth 100000 in
set_option maxHeartbeats 1600000 in
theorem qsigns_any (w : World) : Calls Tryd.prog 31 #[] w (SlP SR w) := by
  go_enter Tryd.func31, Tryd.ntmps31
  go_wp2
  go_ret
  exact slp_mk rfl rfl (by decide)
set_option maxRecDepth 100000 in
set_option maxHeartbeats 1600000 in
theorem qkeywords_any (w : World) : Calls Tryd.prog 30 #[] w (SlP KW w) := by
  go_enter Tryd.func30, Tryd.ntmps30
  go_wp2
  go_ret
  exact slp_mk rfl rfl (by decide)
/-- A bool is returned and what was there is as it was. -/
def BlP (r : Bool) (w : World) (e : Ending) (w' : World) : Prop := e = .returned (.bool r) ∧ Below w.heap.size w w'
set_option maxRecDepth 100000 in
set_option maxHeartbeats 800000 in
theorem qin_any (l : List ByteArray) (g n : Nat) (s : ByteArray) (w : World) (hn : n = l.length) (hl : l.length ≤ 1000) (R : Rd w (.slice (some ⟨g, 0, none⟩) n n) (strs l)) :
    Calls Tryd.prog 29 #[.slice (some ⟨g, 0, none⟩) n n, .string s] w fun e w' => e = .returned (.bool (among l s)) ∧ w = w' := by
  obtain ⟨r, hr⟩ : ∃ r, r = among l s := ⟨_, rfl⟩
  rw [← hr]
  have HR := hid_of hr
  have HC : Hid (∀ i, i < n → ∃ x, l[i]? = some x ∧ w.cell? ⟨g, i, none⟩ = some (.string x)) := hid_of (fun i hi => by
    obtain ⟨ao, cap, e, h2, h3, h4⟩ := R
    have hk : i < l.length := by omega
    obtain ⟨g2, o, q1, _, q3⟩ := h4 (by simp [strs]; omega)
    simp only [Value.slice.injEq] at e
    obtain ⟨e1, _, _⟩ := e
    rw [← e1] at q1
    simp only [Option.some.injEq, Addr.mk.injEq, and_true] at q1
    obtain ⟨rfl, rfl⟩ := q1
    have := q3 i (.string l[i]) (by rw [strs, List.getElem?_map, List.getElem?_eq_getElem hk]; rfl)
    rw [Nat.zero_add] at this
    exact ⟨l[i], List.getElem?_eq_getElem hk, this⟩)
  have HL : Hid (∀ i x, l[i]? = some x → i < n) := hid_of (fun i x h => by rw [hn]; exact (List.getElem?_eq_some_iff.1 h).1)
  have hn1 : n ≤ 1000 := by omega
  clear hr hn hl R
  go_enter Tryd.func29, Tryd.ntmps29
  go_wp2
  go_loop [5] (fun iv => ∃ (i : Nat), i ≤ n ∧ iv = .int .i64 i ∧ Hid (∀ (j : Nat) (x : ByteArray), j < i → l[j]? = some x → x ≠ s)) (fun iv => n - (intOf iv).toNat)
  case atStart => exact ⟨0, Nat.zero_le _, rfl, hid_of (fun j c hj => by omega)⟩
  case round =>
    obtain ⟨i, hi, rfl, hall⟩ := hrel
    by_cases hlt : i < n
    · obtain ⟨x, hx, hcx⟩ := HC.out i hlt
      have HX := hid_of hx
      have d1 : decide (i < n) = true := decide_eq_true hlt
      have hlt' : (i : Int) < (n : Int) := by omega
      have HLT := hid_of hlt
      clear hx
      by_cases e : x = s
      · have RT : Hid (r = true) := hid_of (by rw [HR.out]; exact among_go HX.out e)
        have b1 := eqB_t e
        clear e
        go_wp2
        go_ret
        exact ⟨by rw [RT.out] <;> rfl, rfl⟩
      · have NE := hid_of e
        have b1 := eqB_f e
        clear e
        go_wp2
        go_round
        case rel => have := HLT.out; exact ⟨i + 1, by omega, by go_num, hid_of (fun j y hj hy => by
          by_cases e : j = i
          · subst e; rw [HX.out] at hy; cases hy; exact NE.out
          · exact hall.out j y (by omega) hy)⟩
        case measure => have := HLT.out; simp [intOf]; omega
    · have d1 : decide (i < n) = false := decide_eq_false hlt
      have RF : Hid (r = false) := hid_of (by rw [HR.out]; exact among_no fun j y hy => hall.out j y (by have := HL.out j y hy; omega) hy)
      go_wp2
      go_ret
      exact ⟨by rw [RF.out] <;> rfl, rfl⟩
theorem kw_le : KW.length ≤ 1000 := by decide
theorem sr_le : SR.length ≤ 1000 := by decide
set_option maxRecDepth 100000 in
set_option maxHeartbeats 800000 in
theorem qkeyword_any (s : ByteArray) (w : World) : Calls Tryd.prog 16 #[.string s] w (BlP (kw s) w) := by
  have HI : Hid (∀ g n w1, n = KW.length → Rd w1 (.slice (some ⟨g, 0, none⟩) n n) (strs KW) → Calls Tryd.prog 29 #[.slice (some ⟨g, 0, none⟩) n n, .string s] w1 fun e w' => e = .returned (.bool (kw s)) ∧ w1 = w') := hid_of (fun g n w1 h1 h2 => qin_any KW g n s w1 h1 kw_le h2)
  have HK := hid_of (qkeywords_any w)
  obtain ⟨l, hl⟩ : ∃ l, l = KW := ⟨_, rfl⟩
  rw [← hl] at HI HK
  clear hl
  obtain ⟨r, hr⟩ : ∃ r, r = kw s := ⟨_, rfl⟩
  rw [← hr] at HI ⊢
  clear hr
  go_enter Tryd.func16, Tryd.ntmps16
  go_wp2_with (first
    | (go_at_call 30; ((with_reducible refine (HK.out).mono ?_); (rintro e w1 ⟨g, n, rfl, h1, h2, h3⟩; have IN1 := hid_of (HI.out g n w1 h1 h2); have B1 := hid_of h3; clear h1 h2 h3)))
    | (go_at_call 29; ((with_reducible refine (IN1.out).mono ?_); (rintro e w2 ⟨rfl, rfl⟩))))
  go_ret
  exact ⟨rfl, B1.out⟩
set_option maxRecDepth 100000 in
set_option maxHeartbeats 800000 in
theorem qsign_any (s : ByteArray) (w : World) : Calls Tryd.prog 18 #[.string s] w (BlP (sgn s) w) := by
  have HI : Hid (∀ g n w1, n = SR.length → Rd w1 (.slice (some ⟨g, 0, none⟩) n n) (strs SR) → Calls Tryd.prog 29 #[.slice (some ⟨g, 0, none⟩) n n, .string s] w1 fun e w' => e = .returned (.bool (sgn s)) ∧ w1 = w') := hid_of (fun g n w1 h1 h2 => by rw [← sgn_eq]; exact qin_any SR g n s w1 h1 sr_le h2)
  have HK := hid_of (qsigns_any w)
  obtain ⟨l, hl⟩ : ∃ l, l = SR := ⟨_, rfl⟩
  rw [← hl] at HI HK
  clear hl
  obtain ⟨r, hr⟩ : ∃ r, r = sgn s := ⟨_, rfl⟩
  rw [← hr] at HI ⊢
  clear hr
  go_enter Tryd.func18, Tryd.ntmps18
  go_wp2_with (first
    | (go_at_call 31; ((with_reducible refine (HK.out).mono ?_); (rintro e w1 ⟨g, n, rfl, h1, h2, h3⟩; have IN1 := hid_of (HI.out g n w1 h1 h2); have B1 := hid_of h3; clear h1 h2 h3)))
    | (go_at_call 29; ((with_reducible refine (IN1.out).mono ?_); (rintro e w2 ⟨rfl, rfl⟩))))
  go_ret
  exact ⟨rfl, B1.out⟩
end Go.Proofs.YtdmjlmlmdllhgaaDoor
