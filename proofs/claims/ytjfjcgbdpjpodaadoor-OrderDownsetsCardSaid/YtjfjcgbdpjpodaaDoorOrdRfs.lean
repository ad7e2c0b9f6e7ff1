/- The reference's Acyclic, Pairs, Reduction; fault. Bounds on sizes alone. -/
import Derived.Test.YtjfjcgbdpjpodaaDoorOrdRef
namespace Go.Proofs.YtjfjcgbdpjpodaaDoor
open Go.RowKit

theorem RdG.open {w : World} {ao : Option Addr} {n cap : Nat} {M : Nat → Nat → Bool} (h : RdG w (.slice ao n cap) n M) (h0 : 0 < n) : ∃ q, ao = some ⟨q, 0, none⟩ ∧ q < w.heap.size ∧ ∀ i, i < n → ∃ g, g < w.heap.size ∧ w.cell? ⟨q, i, none⟩ = some (.slice (some ⟨g, 0, none⟩) n n) ∧ ∀ j, j < n → w.cell? ⟨g, j, none⟩ = some (.bool (M i j)) := by
  obtain ⟨_, _, e, _, _, h4⟩ := h
  simp only [Value.slice.injEq] at e
  obtain ⟨rfl, _, rfl⟩ := e
  exact h4 h0
theorem RdG.cap {w : World} {ao : Option Addr} {n cap : Nat} {M : Nat → Nat → Bool} (h : RdG w (.slice ao n cap) n M) : n ≤ cap ∧ cap ≤ 9223372036854775807 := by
  obtain ⟨_, _, e, h1, h2, _⟩ := h
  simp only [Value.slice.injEq] at e
  omega

set_option maxRecDepth 100000 in
set_option maxHeartbeats 800000 in
theorem racyc_any (ao : Option Addr) (n cap : Nat) (A : Nat → Nat) (w : World) (h : RdG w (.slice ao n cap) n (bm A)) (hn : n ≤ 64) :
    Calls Tryd.prog 21 #[.slice ao n cap] w fun e w' => e = .returned (.bool (acyc n A)) ∧ w = w' := by
  have H := hid_of h
  obtain ⟨R, hR⟩ : ∃ R, R = acyc n A := ⟨_, rfl⟩
  rw [← hR]
  have HR := hid_of hR
  clear h hR
  go_enter Tryd.func21, Tryd.ntmps21
  go_wp2
  go_loopw [3] (fun iv wr => ∃ k : Nat, iv = .int .i64 k ∧ k ≤ n ∧ Hid ((List.range k).all (fun a => !(A a).testBit a) = true) ∧ w = wr) (fun iv _ => n - (intOf iv).toNat)
  case atStart => exact ⟨0, rfl, Nat.zero_le _, hid_of rfl, rfl⟩
  case round =>
    obtain ⟨k, rfl, hk, hall, rfl⟩ := hrel
    by_cases hlt : k < n
    · have hd : decide (k < n) = true := by simp; omega
      obtain ⟨q, rfl, hq, hc⟩ := H.out.open (by omega)
      obtain ⟨g, hg, r1, r2⟩ := hc k hlt
      have r3 := r2 k hlt
      have b1 : (k : Int) < (n : Int) := by omega
      have b0 : (0 : Int) ≤ (k : Int) := by omega
      obtain ⟨t, ht⟩ : ∃ t, t = bm A k k := ⟨_, rfl⟩
      rw [← ht] at r3
      have HT : Hid (t = (A k).testBit k) := hid_of ht
      clear hc r2 ht
      cases t
      · go_wp2
        go_roundw
        case rel => exact ⟨k + 1, by go_num, by omega, hid_of (by rw [List.range_succ, List.all_append, hall.out]; simp [← HT.out]), by first | rfl | trivial⟩
        case measure => simp [intOf]; omega
      · go_wp2
        go_ret
        exact ⟨by rw [HR.out, acyc_step hall.out hlt HT.out.symm]; rfl, rfl⟩
    · have hd : decide (k < n) = false := by simp; omega
      have HE : Hid (R = true) := hid_of (by rw [HR.out]; have := hall.out; rw [show k = n by omega] at this; exact this)
      go_wp2
      go_ret
      exact ⟨by rw [HE.out]; rfl, rfl⟩

set_option maxRecDepth 100000 in
set_option maxHeartbeats 800000 in
theorem fault_any (n : Int) (ao : Option Addr) (m cap : Nat) (ps : List Tk) (w : World) (h : TRd w (.slice ao m cap) ps) :
    Calls Tryd.prog 22 #[.int .i64 n, .slice ao m cap] w fun e w' => e = .returned (.int .i64 (errE n ps)) ∧ Below w.heap.size w w' := by
  have HC := hid_of (rcheck_any n ao m cap ps w h)
  rcases err_cases n ps with ⟨h1, h2⟩ | ⟨h1, h2, h3⟩ | ⟨h1, h2, h3⟩
  · rw [h2]
    obtain ⟨E, hE⟩ : ∃ E, E = chkE n ps := ⟨_, rfl⟩
    rw [← hE] at HC h1 ⊢
    have hd : (E == 0) = false := by simpa using h1
    clear h h1 h2 hE
    go_enter Tryd.func22, Tryd.ntmps22
    go_wp2_with (go_at_call 14; ((with_reducible refine (HC.out).mono ?_); (rintro ee w1 ⟨rfl, rfl⟩)))
    go_ret
    exact ⟨rfl, Below.refl _ _⟩
  · rw [h3]
    obtain ⟨k, rfl, hk⟩ := chk_nat h1
    rw [h1] at HC
    have HL := hid_of (less_any k hk ao m cap ps w h h1)
    have HA : Hid (∀ xo xc wx, RdG wx (.slice xo k xc) k (bm (clo k ps)) → Calls Tryd.prog 21 #[.slice xo k xc] wx fun e w' => e = .returned (.bool false) ∧ wx = w') := hid_of (fun xo xc wx hr => by
      have := racyc_any xo k xc _ wx hr hk
      rw [show acyc k (clo k ps) = false from h2] at this
      exact this)
    clear h h1 h2 h3
    go_enter Tryd.func22, Tryd.ntmps22
    go_wp2_with (first
      | (go_at_call 14; ((with_reducible refine (HC.out).mono ?_); (rintro ee w1 ⟨rfl, rfl⟩)))
      | (go_at_call 18; ((with_reducible refine (HL.out).mono ?_); (rintro ee w1 ⟨xo, xc, rfl, h1, h2⟩; have R1 := hid_of h1; have B1 := hid_of h2; clear h1 h2)))
      | (go_at_call 21; ((with_reducible refine (HA.out _ _ _ R1.out).mono ?_); (rintro ee w2 ⟨rfl, rfl⟩))))
    go_ret
    exact ⟨rfl, B1.out⟩
  · rw [h3]
    obtain ⟨k, rfl, hk⟩ := chk_nat h1
    rw [h1] at HC
    have HL := hid_of (less_any k hk ao m cap ps w h h1)
    have HA : Hid (∀ xo xc wx, RdG wx (.slice xo k xc) k (bm (clo k ps)) → Calls Tryd.prog 21 #[.slice xo k xc] wx fun e w' => e = .returned (.bool true) ∧ wx = w') := hid_of (fun xo xc wx hr => by
      have := racyc_any xo k xc _ wx hr hk
      rw [show acyc k (clo k ps) = true from h2] at this
      exact this)
    clear h h1 h2 h3
    go_enter Tryd.func22, Tryd.ntmps22
    go_wp2_with (first
      | (go_at_call 14; ((with_reducible refine (HC.out).mono ?_); (rintro ee w1 ⟨rfl, rfl⟩)))
      | (go_at_call 18; ((with_reducible refine (HL.out).mono ?_); (rintro ee w1 ⟨xo, xc, rfl, h1, h2⟩; have R1 := hid_of h1; have B1 := hid_of h2; clear h1 h2)))
      | (go_at_call 21; ((with_reducible refine (HA.out _ _ _ R1.out).mono ?_); (rintro ee w2 ⟨rfl, rfl⟩))))
    go_ret
    exact ⟨rfl, B1.out⟩
end Go.Proofs.YtjfjcgbdpjpodaaDoor
