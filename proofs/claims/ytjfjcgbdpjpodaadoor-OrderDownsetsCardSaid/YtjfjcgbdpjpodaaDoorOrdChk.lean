/- Check of package order. Bounds on sizes alone. -/
import Derived.Test.YtjfjcgbdpjpodaaDoorOrdRel
namespace Go.Proofs.YtjfjcgbdpjpodaaDoor
open Go.RowKit

def inB (n a : Int) : Bool := decide (0 ≤ a) && decide (a < n)
def okp (n : Int) (p : Tk) : Bool := inB n p.1 && inB n p.2
/-- What Check answers. -/
def chkE (n : Int) (ps : List Tk) : Int := if n < 0 ∨ 64 < n then 1 else if 4096 < ps.length then 6 else if ps.all (okp n) then 0 else 5
theorem okp_valid (n : Nat) (ps : List Tk) : ps.all (okp n) = valid n ps := by
  unfold valid
  congr 1
  funext p
  unfold okp inB
  rw [Bool.eq_iff_iff]
  simp only [Bool.and_eq_true, decide_eq_true_eq]
  omega
theorem TRd.open {w : World} {ao : Option Addr} {n cap : Nat} {l : List Tk} (h : TRd w (.slice ao n cap) l) (h0 : 0 < n) :
    ∃ g o, ao = some ⟨g, o, none⟩ ∧ g < w.heap.size ∧ ∀ i t, l[i]? = some t → w.cell? ⟨g, o + i * 2, none⟩ = some (.int .i64 t.1) ∧ w.cell? ⟨g, o + i * 2 + 1, none⟩ = some (.int .i64 t.2) := by
  obtain ⟨a, c, e, _, _, h4⟩ := h
  simp only [Value.slice.injEq] at e
  obtain ⟨rfl, rfl, rfl⟩ := e
  exact h4 h0

set_option maxRecDepth 100000 in
theorem chk1_any (a : Int) (nb : Nat) (n : Int) (w : World) (h : w.cell? ⟨nb, 0, none⟩ = some (.int .i64 n)) :
    Calls Tryd.prog 36 #[.int .i64 a, .pointer (some ⟨nb, 0, none⟩)] w fun e w' => e = .returned (.bool (inB n a)) ∧ w = w' := by
  unfold inB
  by_cases h1 : 0 ≤ a
  · have d1 : decide (0 ≤ a) = true := by simpa using h1
    rw [d1]
    go_enter Tryd.func36, Tryd.ntmps36
    go_wp2
    go_ret
    exact ⟨by simp, rfl⟩
  · have d1 : decide (0 ≤ a) = false := by simpa using h1
    rw [d1]
    go_enter Tryd.func36, Tryd.ntmps36
    go_wp2
    go_ret
    exact ⟨by simp, rfl⟩

theorem all_no {α : Type} {l : List α} {f : α → Bool} {k : Nat} {a : α} (h : l[k]? = some a) (hf : f a = false) : l.all f = false := by
  rw [Bool.eq_false_iff]
  intro hc
  rw [List.all_eq_true] at hc
  rw [hc a (List.mem_of_getElem? h)] at hf
  cases hf
theorem all_take_succ {α : Type} {l : List α} {f : α → Bool} {k : Nat} {a : α} (h : l[k]? = some a) (h0 : (l.take k).all f = true) (hf : f a = true) : (l.take (k + 1)).all f = true := by
  rw [List.take_add_one, h, List.all_append, h0]
  simp [hf]
theorem box_cell (w : World) (v : Value) (t : TypeId) (w' : World) (h : Below (w.heap.size + 1) (w.alloc (.cells #[v] t)) w') : w'.cell? ⟨w.heap.size, 0, none⟩ = some v := by
  refine (h.cell (p := ⟨w.heap.size, 0, none⟩) (by show w.heap.size < _; omega)).trans ?_
  exact blk_cell (cs := [v]) (heap_alloc_new w (.cells #[v] t)) rfl

set_option maxRecDepth 100000 in
set_option maxHeartbeats 1600000 in
theorem check_any (n : Int) (ao : Option Addr) (m cap : Nat) (ps : List Tk) (w : World) (h : TRd w (.slice ao m cap) ps) :
    Calls Tryd.prog 15 #[.int .i64 n, .slice ao m cap] w fun e w' => e = .returned (.int .i64 (chkE n ps)) ∧ Below w.heap.size w w' := by
  obtain ⟨hm, hc1, hc2⟩ := h.cut
  obtain ⟨R, hR⟩ : ∃ R, R = chkE n ps := ⟨_, rfl⟩
  rw [← hR]
  unfold chkE at hR
  rw [← hm] at hR
  have HM := hid_of hm
  have H := hid_of h
  have B0 := hid_of (Below.refl (w.heap.size + 1) (w.alloc (.cells #[.int .i64 n] 3)))
  have UP : Hid (∀ wx, Below (w.heap.size + 1) (w.alloc (.cells #[.int .i64 n] 3)) wx → Below w.heap.size w wx) := hid_of (fun wx hx => (bel_alloc w _).trans (hx.mono (by omega)))
  have BC : Hid (∀ wx, Below (w.heap.size + 1) (w.alloc (.cells #[.int .i64 n] 3)) wx → wx.cell? ⟨w.heap.size, 0, none⟩ = some (.int .i64 n)) := hid_of (fun wx hx => box_cell w _ _ wx hx)
  clear h hm
  by_cases h1 : n < 0
  · have d1 : decide (n < 0) = true := by simpa using h1
    rw [if_pos (.inl h1)] at hR
    subst hR
    go_enter Tryd.func15, Tryd.ntmps15
    go_wp2
    go_ret
    exact ⟨rfl, bel_alloc w _⟩
  have d1 : decide (n < 0) = false := by simpa using h1
  by_cases h2 : 64 < n
  · have d2 : decide (64 < n) = true := by simpa using h2
    rw [if_pos (.inr h2)] at hR
    subst hR
    go_enter Tryd.func15, Tryd.ntmps15
    go_wp2
    go_ret
    exact ⟨rfl, bel_alloc w _⟩
  have d2 : decide (64 < n) = false := by simpa using h2
  rw [if_neg (by omega)] at hR
  by_cases h3 : 4096 < m
  · have d3 : decide (4096 < m) = true := by simpa using h3
    have d3' : decide ((4096 : Int) < (m : Int)) = true := by simp; omega
    rw [if_pos h3] at hR
    subst hR
    go_enter Tryd.func15, Tryd.ntmps15
    go_wp2
    go_ret
    exact ⟨rfl, bel_alloc w _⟩
  have d3 : decide (4096 < m) = false := by simpa using h3
  have d3' : decide ((4096 : Int) < (m : Int)) = false := by simp; omega
  rw [if_neg h3] at hR
  have HR := hid_of hR
  have hm9 : m ≤ 4096 := by omega
  clear hR h3 h1 h2
  have hmf : ∀ (fn : Fn) (first cap : Array Value) (w : World), (Instr.makeFunc fn first cap).run Tryd.prog w = .ok (.func fn first cap) w := fun _ _ _ _ => rfl
  go_enter Tryd.func15, Tryd.ntmps15
  go_wp2
  clear d1 d2 d3 d3'
  go_loopw [20] (fun iv wr => ∃ k : Nat, iv = .int .i64 k ∧ k ≤ m ∧ Hid ((ps.take k).all (okp n) = true) ∧ Hid (Below (w.heap.size + 1) (w.alloc (.cells #[.int .i64 n] 3)) wr)) (fun iv _ => m - (intOf iv).toNat)
  case atStart => exact ⟨0, rfl, Nat.zero_le _, hid_of (by simp), B0⟩
  case round =>
    obtain ⟨k, rfl, hk, hall, hb⟩ := hrel
    by_cases hlt : k < m
    · have hd : decide (k < m) = true := by simp; omega
      obtain ⟨g, o, rfl, hg, hcell⟩ := H.out.open (by omega)
      obtain ⟨t, ht⟩ : ∃ t, ps[k]? = some t := ⟨_, List.getElem?_eq_getElem (by have := HM.out; omega)⟩
      have c1 := ((UP.out _ hb.out).cell (p := ⟨g, o + k * 2, none⟩) hg).trans (hcell k t ht).1
      have c2 := ((UP.out _ hb.out).cell (p := ⟨g, o + k * 2 + 1, none⟩) hg).trans (hcell k t ht).2
      have HT := hid_of ht
      obtain ⟨t1, t2⟩ := t
      have b1 : (k : Int) < (m : Int) := by omega
      have b0 : (0 : Int) ≤ (k : Int) := by omega
      obtain ⟨v1, hv1⟩ : ∃ v, v = inB n t1 := ⟨_, rfl⟩
      obtain ⟨v2, hv2⟩ : ∃ v, v = inB n t2 := ⟨_, rfl⟩
      have HB2 := hid_of (hb.out.alloc (by have := hb.out.size; simpa using this) (.cells #[.int .i64 t1, .int .i64 t2] 44))
      have K1 : Hid (∀ wx, Below (w.heap.size + 1) (w.alloc (.cells #[.int .i64 n] 3)) wx → Calls Tryd.prog 36 #[.int .i64 t1, .pointer (some ⟨w.heap.size, 0, none⟩)] wx fun e w' => e = .returned (.bool v1) ∧ wx = w') := hid_of (fun wx hx => by rw [hv1]; exact chk1_any t1 _ n wx (BC.out _ hx))
      have K2 : Hid (∀ wx, Below (w.heap.size + 1) (w.alloc (.cells #[.int .i64 n] 3)) wx → Calls Tryd.prog 36 #[.int .i64 t2, .pointer (some ⟨w.heap.size, 0, none⟩)] wx fun e w' => e = .returned (.bool v2) ∧ wx = w') := hid_of (fun wx hx => by rw [hv2]; exact chk1_any t2 _ n wx (BC.out _ hx))
      have HV : Hid (okp n (t1, t2) = (v1 && v2)) := hid_of (by rw [hv1, hv2]; rfl)
      clear hcell ht hv1 hv2
      cases v1
      · go_wp2_with (go_at_call 36; ((with_reducible refine (K1.out _ HB2.out).mono ?_); (rintro ee w' ⟨rfl, rfl⟩)))
        go_ret
        exact ⟨by rw [HR.out, all_no HT.out (by rw [HV.out]; rfl)]; rfl, UP.out _ HB2.out⟩
      · cases v2
        · go_wp2_with (go_at_call 36; (first
            | ((with_reducible refine (K1.out _ HB2.out).mono ?_); (rintro ee w' ⟨rfl, rfl⟩))
            | ((with_reducible refine (K2.out _ HB2.out).mono ?_); (rintro ee w' ⟨rfl, rfl⟩))))
          go_ret
          exact ⟨by rw [HR.out, all_no HT.out (by rw [HV.out]; rfl)]; rfl, UP.out _ HB2.out⟩
        · go_wp2_with (go_at_call 36; (first
            | ((with_reducible refine (K1.out _ HB2.out).mono ?_); (rintro ee w' ⟨rfl, rfl⟩))
            | ((with_reducible refine (K2.out _ HB2.out).mono ?_); (rintro ee w' ⟨rfl, rfl⟩))))
          go_roundw
          case rel => exact ⟨k + 1, by go_num, by omega, hid_of (all_take_succ HT.out hall.out (by rw [HV.out]; rfl)), HB2⟩
          case measure => simp [intOf]; omega
    · have hd : decide (k < m) = false := by simp; omega
      have HE : Hid (R = 0) := hid_of (by
        rw [HR.out]
        have := hall.out
        rw [List.take_of_length_le (by have := HM.out; omega)] at this
        rw [this]; rfl)
      go_wp2
      go_ret
      exact ⟨by rw [HE.out]; rfl, UP.out _ hb.out⟩
end Go.Proofs.YtjfjcgbdpjpodaaDoor
