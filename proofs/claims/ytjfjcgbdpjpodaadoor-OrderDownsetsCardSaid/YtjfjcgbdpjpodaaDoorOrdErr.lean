/- What the functions of package order answer to relations that are not valid or not acyclic. Bounds on sizes alone. -/
import Derived.Test.YtjfjcgbdpjpodaaDoorOrdFun
namespace Go.Proofs.YtjfjcgbdpjpodaaDoor
open Go.RowKit

set_option maxRecDepth 100000 in
theorem reduction_err (n : Int) (ao : Option Addr) (m cap : Nat) (ps : List Tk) (w : World) (h : TRd w (.slice ao m cap) ps) (hT : Tb w) (E : Int) (hE : errE n ps = E) (h0 : E ≠ 0) :
    Calls Tryd.prog 23 #[.int .i64 n, .slice ao m cap] w fun e w' => e = .returned (.tuple #[.slice none 0 0, .int .i64 E]) ∧ Below w.heap.size w w' := by
  have HC := hid_of (orderOf_err n ao m cap ps w h hT E hE h0)
  have hd : (E != 0) = true := by simpa using h0
  clear h hT hE h0
  go_enter Tryd.func23, Tryd.ntmps23
  go_wp2_with (go_at_call 41; ((with_reducible refine (HC.out).mono ?_); (rintro ee w1 ⟨rfl, h1⟩; have H1 := hid_of h1; clear h1)))
  go_ret2
  first | exact ⟨rfl, H1.out⟩ | exact ⟨rfl, H1.out.alloc H1.out.size _⟩

set_option maxRecDepth 100000 in
theorem sort_err (n : Int) (ao : Option Addr) (m cap : Nat) (ps : List Tk) (w : World) (h : TRd w (.slice ao m cap) ps) (hT : Tb w) (E : Int) (hE : errE n ps = E) (h0 : E ≠ 0) :
    Calls Tryd.prog 24 #[.int .i64 n, .slice ao m cap] w fun e w' => e = .returned (.tuple #[.slice none 0 0, .int .i64 E]) ∧ Below w.heap.size w w' := by
  have HC := hid_of (orderOf_err n ao m cap ps w h hT E hE h0)
  have hd : (E != 0) = true := by simpa using h0
  clear h hT hE h0
  go_enter Tryd.func24, Tryd.ntmps24
  go_wp2_with (go_at_call 41; ((with_reducible refine (HC.out).mono ?_); (rintro ee w1 ⟨rfl, h1⟩; have H1 := hid_of h1; clear h1)))
  go_ret2
  first | exact ⟨rfl, H1.out⟩ | exact ⟨rfl, H1.out.alloc H1.out.size _⟩

set_option maxRecDepth 100000 in
theorem levels_err (n : Int) (ao : Option Addr) (m cap : Nat) (ps : List Tk) (w : World) (h : TRd w (.slice ao m cap) ps) (hT : Tb w) (E : Int) (hE : errE n ps = E) (h0 : E ≠ 0) :
    Calls Tryd.prog 25 #[.int .i64 n, .slice ao m cap] w fun e w' => e = .returned (.tuple #[.slice none 0 0, .int .i64 E]) ∧ Below w.heap.size w w' := by
  have HC := hid_of (orderOf_err n ao m cap ps w h hT E hE h0)
  have hd : (E != 0) = true := by simpa using h0
  clear h hT hE h0
  go_enter Tryd.func25, Tryd.ntmps25
  go_wp2_with (go_at_call 41; ((with_reducible refine (HC.out).mono ?_); (rintro ee w1 ⟨rfl, h1⟩; have H1 := hid_of h1; clear h1)))
  go_ret2
  first | exact ⟨rfl, H1.out⟩ | exact ⟨rfl, H1.out.alloc H1.out.size _⟩

set_option maxRecDepth 100000 in
theorem chain_err (n : Int) (ao : Option Addr) (m cap : Nat) (ps : List Tk) (w : World) (h : TRd w (.slice ao m cap) ps) (hT : Tb w) (E : Int) (hE : errE n ps = E) (h0 : E ≠ 0) :
    Calls Tryd.prog 26 #[.int .i64 n, .slice ao m cap] w fun e w' => e = .returned (.tuple #[.slice none 0 0, .int .i64 E]) ∧ Below w.heap.size w w' := by
  have HC := hid_of (orderOf_err n ao m cap ps w h hT E hE h0)
  have hd : (E != 0) = true := by simpa using h0
  clear h hT hE h0
  go_enter Tryd.func26, Tryd.ntmps26
  go_wp2_with (go_at_call 41; ((with_reducible refine (HC.out).mono ?_); (rintro ee w1 ⟨rfl, h1⟩; have H1 := hid_of h1; clear h1)))
  go_ret2
  first | exact ⟨rfl, H1.out⟩ | exact ⟨rfl, H1.out.alloc H1.out.size _⟩

set_option maxRecDepth 100000 in
theorem anti_err (n : Int) (ao : Option Addr) (m cap : Nat) (ps : List Tk) (w : World) (h : TRd w (.slice ao m cap) ps) (hT : Tb w) (E : Int) (hE : errE n ps = E) (h0 : E ≠ 0) :
    Calls Tryd.prog 27 #[.int .i64 n, .slice ao m cap] w fun e w' => e = .returned (.tuple #[.slice none 0 0, .int .i64 E]) ∧ Below w.heap.size w w' := by
  have HC := hid_of (orderOf_err n ao m cap ps w h hT E hE h0)
  have hd : (E != 0) = true := by simpa using h0
  clear h hT hE h0
  go_enter Tryd.func27, Tryd.ntmps27
  go_wp2_with (go_at_call 41; ((with_reducible refine (HC.out).mono ?_); (rintro ee w1 ⟨rfl, h1⟩; have H1 := hid_of h1; clear h1)))
  go_ret2
  first | exact ⟨rfl, H1.out⟩ | exact ⟨rfl, H1.out.alloc H1.out.size _⟩

set_option maxRecDepth 100000 in
theorem cover_err (n : Int) (ao : Option Addr) (m cap : Nat) (ps : List Tk) (w : World) (h : TRd w (.slice ao m cap) ps) (hT : Tb w) (E : Int) (hE : errE n ps = E) (h0 : E ≠ 0) :
    Calls Tryd.prog 28 #[.int .i64 n, .slice ao m cap] w fun e w' => e = .returned (.tuple #[.slice none 0 0, .int .i64 E]) ∧ Below w.heap.size w w' := by
  have HC := hid_of (orderOf_err n ao m cap ps w h hT E hE h0)
  have hd : (E != 0) = true := by simpa using h0
  clear h hT hE h0
  go_enter Tryd.func28, Tryd.ntmps28
  go_wp2_with (go_at_call 41; ((with_reducible refine (HC.out).mono ?_); (rintro ee w1 ⟨rfl, h1⟩; have H1 := hid_of h1; clear h1)))
  go_ret2
  first | exact ⟨rfl, H1.out⟩ | exact ⟨rfl, H1.out.alloc H1.out.size _⟩

/-- What Downsets answers. -/
def dwnE (n : Int) (ps : List Tk) (lim : Int) : Int := if chkE n ps = 0 then (if lim < 1 then 1 else errE n ps) else chkE n ps
set_option maxRecDepth 100000 in
theorem downsets_err (n : Int) (ao : Option Addr) (m cap : Nat) (ps : List Tk) (lim : Int) (w : World) (h : TRd w (.slice ao m cap) ps) (hT : Tb w) (E : Int) (hE : dwnE n ps lim = E) (h0 : E ≠ 0) :
    Calls Tryd.prog 29 #[.int .i64 n, .slice ao m cap, .int .i64 lim] w fun e w' => e = .returned (.tuple #[.slice none 0 0, .int .i64 E]) ∧ Below w.heap.size w w' := by
  have hB := bel_alloc w (.cells #[.int .i64 lim] 3)
  have BC : Hid (∀ wx, Below (w.heap.size + 1) (w.alloc (.cells #[.int .i64 lim] 3)) wx → wx.cell? ⟨w.heap.size, 0, none⟩ = some (.int .i64 lim)) := hid_of (fun wx hx => box_cell w _ _ wx hx)
  have HB := hid_of hB
  have HC := hid_of (check_any n ao m cap ps _ (h.at hB))
  have hz : (w.alloc (.cells #[.int .i64 lim] 3)).heap.size = w.heap.size + 1 := by simp
  have HZ := hid_of hz
  unfold dwnE at hE
  by_cases hc : chkE n ps = 0
  · rw [if_pos hc] at hE
    rw [hc] at HC
    by_cases hl : lim < 1
    · have hd : decide (lim < 1) = true := by simpa using hl
      rw [if_pos hl] at hE
      subst hE
      clear h hT h0 hc hl hB hz
      go_enter Tryd.func29, Tryd.ntmps29
      go_wp2_with (go_at_call 15; ((with_reducible refine (HC.out).mono ?_); (rintro ee w1 ⟨rfl, h1⟩; have H1 := hid_of (HB.out.trans (h1.mono HB.out.size)); have c1 := BC.out _ (by rw [HZ.out] at h1; exact h1); clear h1)))
      go_ret2
      exact ⟨rfl, H1.out⟩
    · have hd : decide (lim < 1) = false := by simpa using hl
      rw [if_neg hl] at hE
      have HO : Hid (∀ wx, Below w.heap.size w wx → Calls Tryd.prog 41 #[.int .i64 n, .slice ao m cap] wx fun e w' => e = .returned (.tuple #[.pointer none, .int .i64 E]) ∧ Below wx.heap.size wx w') := hid_of (fun wx hx => orderOf_err n ao m cap ps wx (h.at hx) (hT.at hx) E hE h0)
      have hd0 : (E != 0) = true := by simpa using h0
      clear h hT h0 hc hl hB hz hE
      go_enter Tryd.func29, Tryd.ntmps29
      go_wp2_with (first
        | (go_at_call 15; ((with_reducible refine (HC.out).mono ?_); (rintro ee w1 ⟨rfl, h1⟩; have H1 := hid_of (HB.out.trans (h1.mono HB.out.size)); have c1 := BC.out _ (by rw [HZ.out] at h1; exact h1); clear h1)))
        | (go_at_call 41; ((with_reducible refine (HO.out _ H1.out).mono ?_); (rintro ee w2 ⟨rfl, h1⟩; have H2 := hid_of (H1.out.trans (h1.mono H1.out.size)); clear h1))))
      go_ret2
      first | exact ⟨rfl, H2.out⟩ | exact ⟨rfl, H2.out.alloc H2.out.size _⟩
  · rw [if_neg hc] at hE
    rw [hE] at HC
    have hd0 : (E != 0) = true := by simpa using h0
    clear h hT h0 hc hB hz hE
    go_enter Tryd.func29, Tryd.ntmps29
    go_wp2_with (go_at_call 15; ((with_reducible refine (HC.out).mono ?_); (rintro ee w1 ⟨rfl, h1⟩; have H1 := hid_of (HB.out.trans (h1.mono HB.out.size)); clear h1)))
    go_ret2
    exact ⟨rfl, H1.out⟩
end Go.Proofs.YtjfjcgbdpjpodaaDoor
