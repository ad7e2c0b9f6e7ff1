/- The parser of package names: its blanks, its signs and its words. Bounds on sizes alone. -/
import Derived.Test.YtpbjnbceloibnaaNamPm
import Derived.Deep.DrawnRows
namespace Go.Proofs.Ytpbjnbceloibnaa
open Go.RowKit

/-- The parser of the source s in block b stands at place i. -/
def Pst (w : World) (b : Nat) (s : ByteArray) (i : Nat) : Prop := w.heap[b]? = some (.cells #[.string s, .int .i64 (i : Int)] 55 (0, 0))
theorem Pst.src {w : World} {b : Nat} {s : ByteArray} {i : Nat} (h : Pst w b s i) : w.cell? ⟨b, 0, none⟩ = some (.string s) := by simp [World.cell?, show w.heap[b]? = _ from h]
theorem Pst.pos {w : World} {b : Nat} {s : ByteArray} {i : Nat} (h : Pst w b s i) : w.cell? ⟨b, 1, none⟩ = some (.int .i64 (i : Int)) := by simp [World.cell?, show w.heap[b]? = _ from h]
theorem Pst.free {w : World} {b : Nat} {s : ByteArray} {i : Nat} (h : Pst w b s i) : w.frozen? ⟨b, 1, none⟩ = false := by simp [World.frozen?, show w.heap[b]? = _ from h]
theorem Pst.set {w : World} {b : Nat} {s : ByteArray} {i : Nat} (h : Pst w b s i) (k : Nat) : Pst (w.setCell ⟨b, 1, none⟩ (.int .i64 (k : Int))) b s k := by
  have h2 : w.heap[b]? = some (.cells ([.string s, .int .i64 (i : Int)] : List Value).toArray 55 (0, 0)) := h
  exact blk_setCell h2
theorem Pst.drewN {w : World} {b : Nat} {s : ByteArray} {i : Nat} (h : Pst w b s i) (n : Nat) : Pst (w.drewN n) b s i := h
theorem Pst.lt {w : World} {b : Nat} {s : ByteArray} {i : Nat} (h : Pst w b s i) : b < w.heap.size := lt_of_block h
def pAt (b : Nat) (w : World) : Nat := match w.cell? ⟨b, 1, none⟩ with
  | some (.int _ n) => n.toNat
  | _ => 0
theorem Pst.at_ {w : World} {b : Nat} {s : ByteArray} {i : Nat} (h : Pst w b s i) : pAt b w = i := by simp [pAt, h.pos]
abbrev KB (b : Nat) (w w' : World) : Prop := Kept (fun k => k = b) w w'

set_option maxRecDepth 100000 in
set_option maxHeartbeats 800000 in
theorem skip_any (b : Nat) (s : ByteArray) (i : Nat) (w : World) (hs : s.size ≤ 1000000) (hi : i ≤ s.size) (H : Pst w b s i) :
    Calls Try.prog 59 #[.pointer (some ⟨b, 0, none⟩)] w fun e w' => e = .returned (.tuple #[]) ∧ Pst w' b s (sk s i) ∧ KB b w w' := by
  obtain ⟨r, hr⟩ : ∃ r, r = sk s i := ⟨_, rfl⟩
  rw [← hr]
  have HR := hid_of hr
  have HP := hid_of H
  clear hr H
  go_enter Try.func59, Try.ntmps59
  go_wp2
  go_loopw [2] (fun xv wr => ∃ (j : Nat) (v : Value), xv = v ∧ j ≤ s.size ∧ Hid (sk s j = r) ∧ Hid (Pst wr b s j) ∧ Hid (KB b w wr)) (fun _ wr => s.size - pAt b wr)
  case atStart => exact ⟨i, _, rfl, hi, hid_of HR.out.symm, HP, hid_of (Kept.refl _ _)⟩
  case round =>
    obtain ⟨j, v, rfl, hj, hsk, hp, hk⟩ := hrel
    have c0 := hp.out.src
    have c1 := hp.out.pos
    have f1 := hp.out.free
    by_cases hlt : j < s.size
    · have d1 : decide (j < s.size) = true := by simp; omega
      have b1 : (j : Int) < (s.size : Int) := by omega
      have b0 : (0 : Int) ≤ (j : Int) := by omega
      obtain ⟨x, hx⟩ : ∃ x : Int, x = ((s[j]).toNat : Int) := ⟨_, rfl⟩
      have HX : Hid (gt s j = x) := hid_of (by rw [gt_lt hlt, hx])
      have hxs : ((s[j]).toNat : Int) = x := hx.symm
      clear hx
      by_cases e : x = 32
      · have t1 : (x == 32) = true := by simp [e]
        have STEP : Hid (sk s (j + 1) = r) := hid_of (by rw [← hsk.out]; exact (runF_go hlt (by rw [HX.out, e]; rfl)).symm)
        clear e
        go_wp2
        go_quiet (fail)
        go_wp2
        go_roundw
        case rel => exact ⟨j + 1, _, rfl, by omega, STEP, hid_of ((hp.out.drewN _).set (j + 1)), hid_of ((hk.out.drewN _).trans (Kept.set _ _ _ _))⟩
        case measure =>
          have hm : pAt b ((wr.drewN nq).setCell ⟨b, 1, none⟩ (.int .i64 ((j : Int) + 1))) = j + 1 := ((hp.out.drewN nq).set (j + 1)).at_
          rw [hp.out.at_, hm]; omega
      · have t1 : (x == 32) = false := by simp [e]
        have STEP : Hid (j = r) := hid_of (by rw [← hsk.out]; exact (sk_stop (by rw [HX.out]; exact e)).symm)
        clear e
        go_wp2
        go_quiet (fail)
        go_wp2
        go_end0
        exact ⟨rfl, by rw [← STEP.out]; exact hp.out.drewN _, hk.out.drewN _⟩
    · have d1 : decide (j < s.size) = false := by simp; omega
      have STEP : Hid (j = r) := hid_of (by rw [← hsk.out]; exact (runF_end blank_ends hlt).symm)
      go_wp2
      go_quiet (fail)
      go_wp2
      go_end0
      exact ⟨rfl, by rw [← STEP.out]; exact hp.out.drewN _, hk.out.drewN _⟩

set_option maxRecDepth 100000 in
set_option maxHeartbeats 800000 in
theorem sign_yes (b : Nat) (s : ByteArray) (i : Nat) (c : Int) (w : World) (hs : s.size ≤ 1000000) (hi : i ≤ s.size) (H : Pst w b s i) (hc : gt s (sk s i) = c) (hc0 : 0 ≤ c) :
    Calls Try.prog 57 #[.pointer (some ⟨b, 0, none⟩), .int .u8 c] w fun e w' => e = .returned (.bool true) ∧ Pst w' b s (sk s i + 1) ∧ KB b w w' := by
  have SK := hid_of (skip_any b s i w hs hi H)
  have hlt := gt_in (s := s) (i := sk s i) (by rw [hc]; exact hc0)
  obtain ⟨j, hj⟩ : ∃ j, j = sk s i := ⟨_, rfl⟩
  rw [← hj] at SK hc hlt ⊢
  have hxs : ((s[j]).toNat : Int) = c := by rw [← hc, gt_lt hlt]
  have t1 : (c != c) = false := by simp
  have t2 : ((j : Int) == (s.size : Int)) = false := by simp; omega
  have t3 : (j == s.size) = false := by simp; omega
  have b1 : (j : Int) < (s.size : Int) := by omega
  have b0 : (0 : Int) ≤ (j : Int) := by omega
  clear hj hc H hi
  go_enter Try.func57, Try.ntmps57
  go_wp2_with (go_at_call 59; ((with_reducible refine (SK.out).mono ?_); (rintro e w1 ⟨rfl, h1, h2⟩; have P1 := hid_of h1; have K1 := hid_of h2; clear h1 h2)))
  have c0 := P1.out.src
  have c1 := P1.out.pos
  have f1 := P1.out.free
  go_quiet (fail)
  go_wp2
  go_ret
  exact ⟨rfl, (P1.out.drewN _).set (j + 1), (K1.out.drewN _).trans (Kept.set _ _ _ _)⟩
set_option maxRecDepth 100000 in
set_option maxHeartbeats 800000 in
theorem sign_no (b : Nat) (s : ByteArray) (i : Nat) (c : Int) (w : World) (hs : s.size ≤ 1000000) (hi : i ≤ s.size) (H : Pst w b s i) (hc : gt s (sk s i) ≠ c) :
    Calls Try.prog 57 #[.pointer (some ⟨b, 0, none⟩), .int .u8 c] w fun e w' => e = .returned (.bool false) ∧ Pst w' b s (sk s i) ∧ KB b w w' := by
  have SK := hid_of (skip_any b s i w hs hi H)
  have hle := (sk_spec s i).2.2.1 hi
  obtain ⟨j, hj⟩ : ∃ j, j = sk s i := ⟨_, rfl⟩
  rw [← hj] at SK hc hle ⊢
  clear hj H hi
  by_cases hlt : j < s.size
  · obtain ⟨x, hx⟩ : ∃ x : Int, x = ((s[j]).toNat : Int) := ⟨_, rfl⟩
    have hxs : ((s[j]).toNat : Int) = x := hx.symm
    have t1 : (x != c) = true := by rw [bne_iff_ne, hx, ← gt_lt hlt]; exact hc
    have t2 : ((j : Int) == (s.size : Int)) = false := by simp; omega
    have t3 : (j == s.size) = false := by simp; omega
    have b1 : (j : Int) < (s.size : Int) := by omega
    have b0 : (0 : Int) ≤ (j : Int) := by omega
    clear hx hc
    go_enter Try.func57, Try.ntmps57
    go_wp2_with (go_at_call 59; ((with_reducible refine (SK.out).mono ?_); (rintro e w1 ⟨rfl, h1, h2⟩; have P1 := hid_of h1; have K1 := hid_of h2; clear h1 h2)))
    have c0 := P1.out.src
    have c1 := P1.out.pos
    go_quiet (fail)
    go_wp2
    go_ret
    exact ⟨rfl, P1.out.drewN _, K1.out.drewN _⟩
  · have t2 : ((j : Int) == (s.size : Int)) = true := by simp; omega
    have t3 : (j == s.size) = true := by simp; omega
    clear hc hlt hle
    go_enter Try.func57, Try.ntmps57
    go_wp2_with (go_at_call 59; ((with_reducible refine (SK.out).mono ?_); (rintro e w1 ⟨rfl, h1, h2⟩; have P1 := hid_of h1; have K1 := hid_of h2; clear h1 h2)))
    have c0 := P1.out.src
    have c1 := P1.out.pos
    go_quiet (fail)
    go_wp2
    go_ret
    exact ⟨rfl, P1.out.drewN _, K1.out.drewN _⟩
set_option maxRecDepth 100000 in
set_option maxHeartbeats 800000 in
theorem word_any (b : Nat) (s : ByteArray) (i : Nat) (w : World) (hs : s.size ≤ 1000000) (hi : i ≤ s.size) (H : Pst w b s i) :
    Calls Try.prog 73 #[.pointer (some ⟨b, 0, none⟩)] w fun e w' => e = .returned (.string (s.extract (sk s i) (we s (sk s i)))) ∧ Pst w' b s (we s (sk s i)) ∧ KB b w w' := by
  have SK := hid_of (skip_any b s i w hs hi H)
  have hle := (sk_spec s i).2.2.1 hi
  obtain ⟨st, hst⟩ : ∃ j, j = sk s i := ⟨_, rfl⟩
  rw [← hst] at SK hle ⊢
  obtain ⟨r, hr⟩ : ∃ r, r = we s st := ⟨_, rfl⟩
  rw [← hr]
  have HR := hid_of hr
  have hr1 := (we_spec s st).2.1
  have hr2 := (we_spec s st).2.2.1 hle
  rw [← hr] at hr1 hr2
  have st0 : (0 : Int) ≤ (st : Int) := by omega
  have st1 : (st : Int) ≤ (r : Int) := by omega
  have st2 : (r : Int) ≤ (s.size : Int) := by omega
  clear hst H hi hr
  go_enter Try.func73, Try.ntmps73
  go_wp2_with (go_at_call 59; ((with_reducible refine (SK.out).mono ?_); (rintro e w1 ⟨rfl, h1, h2⟩; have P1 := hid_of h1; have K1 := hid_of h2; have c1x := h1.pos; clear h1 h2)))
  go_loopw [10] (fun xv wr => ∃ (j : Nat) (v : Value), xv = v ∧ j ≤ s.size ∧ st ≤ j ∧ Hid (we s j = r) ∧ Hid (Pst wr b s j) ∧ Hid (KB b w wr)) (fun _ wr => s.size - pAt b wr)
  case atStart => exact ⟨st, _, rfl, hle, Nat.le_refl _, hid_of HR.out.symm, P1, K1⟩
  case round =>
    clear c1x
    obtain ⟨j, v, rfl, hj, hsj, hsk, hp, hk⟩ := hrel
    have c0 := hp.out.src
    have c1 := hp.out.pos
    have f1 := hp.out.free
    by_cases hlt : j < s.size
    · have d1 : decide (j < s.size) = true := by simp; omega
      have b1 : (j : Int) < (s.size : Int) := by omega
      have b0 : (0 : Int) ≤ (j : Int) := by omega
      obtain ⟨x, hx⟩ : ∃ x : Int, x = ((s[j]).toNat : Int) := ⟨_, rfl⟩
      have HX : Hid (gt s j = x) := hid_of (by rw [gt_lt hlt, hx])
      have hxs : ((s[j]).toNat : Int) = x := hx.symm
      obtain ⟨q, hq⟩ : ∃ q, q = inw x := ⟨_, rfl⟩
      have INW : Hid (∀ w, Calls Try.prog 38 #[.int .u8 x] w fun e w' => e = .returned (.bool q) ∧ w' = w) := hid_of (fun w => by rw [hq]; exact inWord_any x w)
      have HQ := hid_of hq
      clear hx hq
      cases q
      · have STEP : Hid (j = r) := hid_of (by rw [← hsk.out]; exact (runF_stop (by rw [HX.out]; exact HQ.out.symm)).symm)
        go_wp2
        go_quiet ((go_at_call 38; exact Calls.quiet_of_same (INW.out _)))
        go_wp2
        go_quiet (fail)
        go_wp2
        go_ret
        exact ⟨by rw [STEP.out] <;> rfl, by rw [← STEP.out]; exact (hp.out.drewN _).drewN _, (hk.out.drewN _).drewN _⟩
      · have STEP : Hid (we s (j + 1) = r) := hid_of (by rw [← hsk.out]; exact (runF_go hlt (by rw [HX.out]; exact HQ.out.symm)).symm)
        go_wp2
        go_quiet ((go_at_call 38; exact Calls.quiet_of_same (INW.out _)))
        go_wp2
        go_roundw
        case rel => exact ⟨j + 1, _, rfl, by omega, by omega, STEP, hid_of ((hp.out.drewN _).set (j + 1)), hid_of ((hk.out.drewN _).trans (Kept.set _ _ _ _))⟩
        case measure =>
          have hm : pAt b ((wr.drewN nq).setCell ⟨b, 1, none⟩ (.int .i64 ((j : Int) + 1))) = j + 1 := ((hp.out.drewN nq).set (j + 1)).at_
          rw [hp.out.at_, hm]; omega
    · have d1 : decide (j < s.size) = false := by simp; omega
      have STEP : Hid (j = r) := hid_of (by rw [← hsk.out]; exact (runF_end inw_ends hlt).symm)
      go_wp2
      go_quiet (fail)
      go_wp2
      go_quiet (fail)
      go_wp2
      go_ret
      exact ⟨by rw [STEP.out] <;> rfl, by rw [← STEP.out]; exact (hp.out.drewN _).drewN _, (hk.out.drewN _).drewN _⟩
end Go.Proofs.Ytpbjnbceloibnaa
