/- The scanner of the declaration language: run and sees. Bounds on sizes alone. -/
import Derived.Test.YtdmjlmlmdllhgaaDoorLexChr
import Derived.Test.YtdmjlmlmdllhgaaDoorRow
import Derived.Deep.DrawnRows
import Derived.Shelf.Abstract
namespace Go.Proofs.YtdmjlmlmdllhgaaDoor
open Go.RowKit

/-- The scanner of the source s in block b stands at place i. -/
def Pst (w : World) (b : Nat) (s : ByteArray) (i : Nat) : Prop := w.heap[b]? = some (.cells #[.string s, .int .i64 (i : Int)] 51 (0, 0))
theorem Pst.src {w : World} {b : Nat} {s : ByteArray} {i : Nat} (h : Pst w b s i) : w.cell? ⟨b, 0, none⟩ = some (.string s) := by simp [World.cell?, show w.heap[b]? = _ from h]
theorem Pst.pos {w : World} {b : Nat} {s : ByteArray} {i : Nat} (h : Pst w b s i) : w.cell? ⟨b, 1, none⟩ = some (.int .i64 (i : Int)) := by simp [World.cell?, show w.heap[b]? = _ from h]
theorem Pst.free {w : World} {b : Nat} {s : ByteArray} {i : Nat} (h : Pst w b s i) : w.frozen? ⟨b, 1, none⟩ = false := by simp [World.frozen?, show w.heap[b]? = _ from h]
theorem Pst.set {w : World} {b : Nat} {s : ByteArray} {i : Nat} (h : Pst w b s i) (k : Nat) : Pst (w.setCell ⟨b, 1, none⟩ (.int .i64 (k : Int))) b s k := by
  have h2 : w.heap[b]? = some (.cells ([.string s, .int .i64 (i : Int)] : List Value).toArray 51 (0, 0)) := h
  exact blk_setCell h2
theorem Pst.drewN {w : World} {b : Nat} {s : ByteArray} {i : Nat} (h : Pst w b s i) (n : Nat) : Pst (w.drewN n) b s i := h
theorem Pst.lt {w : World} {b : Nat} {s : ByteArray} {i : Nat} (h : Pst w b s i) : b < w.heap.size := lt_of_block h
def pAt (b : Nat) (w : World) : Nat := match w.cell? ⟨b, 1, none⟩ with
  | some (.int _ n) => n.toNat
  | _ => 0
theorem Pst.at_ {w : World} {b : Nat} {s : ByteArray} {i : Nat} (h : Pst w b s i) : pAt b w = i := by simp [pAt, h.pos]
abbrev KB (b : Nat) (w w' : World) : Prop := Kept (fun k => k = b) w w'

set_option maxRecDepth 100000 in
set_option maxHeartbeats 800000 in
theorem lrun_any (gv : Nat) (p : Int → Bool) (eg : ∀ args w, (callFunc gv args).run Tryd.prog w = .ok (.enter gv args) w) (hp : ∀ (c : Int) (w : World), Calls Tryd.prog gv #[.int .u8 c] w fun e w' => e = .returned (.bool (p c)) ∧ w' = w) (b : Nat) (s : ByteArray) (i : Nat) (w : World) (hs : s.size ≤ 1000000) (hi : i ≤ s.size) (H : Pst w b s i) :
    Calls Tryd.prog 59 #[.pointer (some ⟨b, 0, none⟩), .func (.func gv) #[] #[]] w fun e w' => e = .returned (.string (s.extract i (runF p s i))) ∧ Pst w' b s (runF p s i) ∧ KB b w w' := by
  obtain ⟨r, hr⟩ : ∃ r, r = runF p s i := ⟨_, rfl⟩
  rw [← hr]
  have HR := hid_of hr
  have hr1 := run_ge p s i
  have hr2 := run_le (p := p) hi
  rw [← hr] at hr1 hr2
  have st0 : (0 : Int) ≤ (i : Int) := by omega
  have st1 : (i : Int) ≤ (r : Int) := by omega
  have st2 : (r : Int) ≤ (s.size : Int) := by omega
  have HP := hid_of hp
  have HH := hid_of H
  have c1x := H.pos
  clear hr hp H
  go_enter Tryd.func59, Tryd.ntmps59
  go_wp2
  go_loopw [10] (fun xv wr => ∃ (j : Nat) (v : Value), xv = v ∧ j ≤ s.size ∧ i ≤ j ∧ Hid (runF p s j = r) ∧ Hid (Pst wr b s j) ∧ Hid (KB b w wr)) (fun _ wr => s.size - pAt b wr)
  case atStart => exact ⟨i, _, rfl, hi, Nat.le_refl _, hid_of HR.out.symm, HH, hid_of (Kept.refl _ _)⟩
  case round =>
    clear c1x
    obtain ⟨j, v, rfl, hj, hsj, hsk, hp, hk⟩ := hrel
    have c0 := hp.out.src
    have c1 := hp.out.pos
    have f1 := hp.out.free
    by_cases hlt : j < s.size
    · have d1 : decide (j < s.size) = true := by simp; omega
      have b1 : (j : Int) < (s.size : Int) := by omega
      have b0 : (0 : Int) ≤ (j : Int) := by omega
      obtain ⟨x, hx⟩ : ∃ x : Int, x = ((s[j]).toNat : Int) := ⟨_, rfl⟩
      have HX : Hid (gt s j = x) := hid_of (by rw [gt_lt hlt, hx])
      have hxs : ((s[j]).toNat : Int) = x := hx.symm
      obtain ⟨q, hq⟩ : ∃ q, q = p x := ⟨_, rfl⟩
      have INW : Hid (∀ w, Calls Tryd.prog gv #[.int .u8 x] w fun e w' => e = .returned (.bool q) ∧ w' = w) := hid_of (fun w => by rw [hq]; exact HP.out x w)
      have HQ := hid_of hq
      clear hx hq
      cases q
      · have STEP : Hid (j = r) := hid_of (by rw [← hsk.out]; exact (runF_stop (by rw [HX.out]; exact HQ.out.symm)).symm)
        go_wp2
        go_quiet ((go_at_fn gv; exact Calls.quiet_of_same (INW.out _)))
        go_wp2
        go_quiet (fail)
        go_wp2
        go_ret
        exact ⟨by rw [STEP.out] <;> rfl, by rw [← STEP.out]; exact (hp.out.drewN _).drewN _, (hk.out.drewN _).drewN _⟩
      · have STEP : Hid (runF p s (j + 1) = r) := hid_of (by rw [← hsk.out]; exact (runF_go hlt (by rw [HX.out]; exact HQ.out.symm)).symm)
        go_wp2
        go_quiet ((go_at_fn gv; exact Calls.quiet_of_same (INW.out _)))
        go_wp2
        go_roundw
        case rel => exact ⟨j + 1, _, rfl, by omega, by omega, STEP, hid_of ((hp.out.drewN _).set (j + 1)), hid_of ((hk.out.drewN _).trans (Kept.set _ _ _ _))⟩
        case measure =>
          have hm : pAt b ((wr.drewN nq).setCell ⟨b, 1, none⟩ (.int .i64 ((j : Int) + 1))) = j + 1 := ((hp.out.drewN nq).set (j + 1)).at_
          rw [hp.out.at_, hm]; omega
    · have d1 : decide (j < s.size) = false := by simp; omega
      have STEP : Hid (j = r) := hid_of (by rw [← hsk.out]; exact (runF_end hlt).symm)
      go_wp2
      go_quiet (fail)
      go_wp2
      go_quiet (fail)
      go_wp2
      go_ret
      exact ⟨by rw [STEP.out] <;> rfl, by rw [← STEP.out]; exact (hp.out.drewN _).drewN _, (hk.out.drewN _).drewN _⟩

set_option maxRecDepth 100000 in
set_option maxHeartbeats 800000 in
theorem lsees_any (b : Nat) (s : ByteArray) (i : Nat) (c : Int) (w : World) (_ : s.size ≤ 1000000) (hi : i ≤ s.size) (hc : 0 ≤ c) (H : Pst w b s i) :
    Calls Tryd.prog 61 #[.pointer (some ⟨b, 0, none⟩), .int .u8 c] w fun e w' => e = .returned (.bool (decide (gt s i = c))) ∧ Pst w' b s i ∧ KB b w w' := by
  have c0 := H.src
  have c1 := H.pos
  have HH := hid_of H
  obtain ⟨r, hr⟩ : ∃ r, r = decide (gt s i = c) := ⟨_, rfl⟩
  rw [← hr]
  have HR := hid_of hr
  clear hr H
  by_cases hlt : i < s.size
  · have d1 : decide (i < s.size) = true := by simp; omega
    have b1 : (i : Int) < (s.size : Int) := by omega
    have b0 : (0 : Int) ≤ (i : Int) := by omega
    obtain ⟨x, hx⟩ : ∃ x : Int, x = ((s[i]).toNat : Int) := ⟨_, rfl⟩
    have HX : Hid (gt s i = x) := hid_of (by rw [gt_lt hlt, hx])
    have hxs : ((s[i]).toNat : Int) = x := hx.symm
    have HB : Hid ((x == c) = r) := hid_of (by rw [HR.out, HX.out]; rfl)
    clear hx
    go_enter Tryd.func61, Tryd.ntmps61
    go_wp2
    go_quiet (fail)
    go_wp2
    go_ret
    exact ⟨by rw [← HB.out] <;> rfl, HH.out.drewN _, (Kept.refl _ _).drewN _⟩
  · have d1 : decide (i < s.size) = false := by simp; omega
    have RF : Hid (r = false) := hid_of (by rw [HR.out, gt_ge hlt]; simp; omega)
    go_enter Tryd.func61, Tryd.ntmps61
    go_wp2
    go_quiet (fail)
    go_wp2
    go_ret
    exact ⟨by rw [RF.out] <;> rfl, HH.out.drewN _, (Kept.refl _ _).drewN _⟩
end Go.Proofs.YtdmjlmlmdllhgaaDoor
