/- The reference's Closed. Bounds on sizes alone. -/
import Derived.Test.YtjponegeidiheaaClsHvy
import Derived.Test.YtjponegeidiheaaClsCld
namespace Go.Proofs.Ytjponegeidiheaa
open Go.RowKit

set_option maxRecDepth 100000 in
set_option maxHeartbeats 800000 in
theorem rclosed_any (ro : Option Addr) (rn rc : Nat) (rs : List Gr) (so : Option Addr) (sn sc : Nat) (s : List Str) (w : World) (hR : RuR w (.slice ro rn rc) rs) (hS : Rd w (.slice so sn sc) (ss s)) :
    Calls Try.prog 24 #[.slice ro rn rc, .slice so sn sc] w fun e w' => e = .returned (.bool (clsB rs s)) ∧ w = w' := by
  obtain ⟨hm, h4⟩ := hR.len
  obtain ⟨q, hq⟩ : ∃ q, q = clsB rs s := ⟨_, rfl⟩
  rw [← hq]
  have HQ := hid_of hq
  have HM := hid_of hm
  have HRU : Hid (∀ k, k < rn → ∃ g o a c bx r, ro = some ⟨g, o, none⟩ ∧ rs[k]? = some r ∧ w.cell? ⟨g, o + k * 2, none⟩ = some (.slice a r.1.length c) ∧ w.cell? ⟨g, o + k * 2 + 1, none⟩ = some (.string bx) ∧
      Hid (Calls Try.prog 25 #[.slice a r.1.length c, .slice so sn sc] w fun e w' => e = .returned (.bool (subB r.1 s)) ∧ w = w') ∧ Hid (Calls Try.prog 26 #[.slice so sn sc, .string bx] w fun e w' => e = .returned (.bool (decide (r.2 ∈ s))) ∧ w = w')) := hid_of (fun k hk => by
    obtain ⟨r, hr⟩ : ∃ r, rs[k]? = some r := ⟨_, List.getElem?_eq_getElem (by omega)⟩
    obtain ⟨g, o, a, c, e, c0, c1, rr⟩ := hR.get hr
    exact ⟨g, o, a, c, _, r, e, hr, c0, c1, hid_of (rsub_any a _ c r.1 so sn sc s w rr hS), hid_of (rhas_any so sn sc s r.2 w hS)⟩)
  clear hq hm hR hS
  go_enter Try.func24, Try.ntmps24
  go_wp2
  go_loop [5] (fun iv => ∃ k : Nat, k ≤ rn ∧ iv = .int .i64 k ∧ Hid (∀ r ∈ rs.take k, subB r.1 s = true → r.2 ∈ s)) (fun iv => rn - (intOf iv).toNat)
  case atStart => exact ⟨0, Nat.zero_le _, rfl, hid_of (by simp)⟩
  case round =>
    obtain ⟨k, hk, rfl, hx⟩ := hrel
    by_cases hlt : k < rn
    · have hd : decide (k < rn) = true := by simp; omega
      obtain ⟨g, o, a, c, bx, r, rfl, e1, c0, c1, HS, HH⟩ := HRU.out k hlt
      obtain ⟨pl, hpl⟩ : ∃ pl, pl = r.1.length := ⟨_, rfl⟩
      obtain ⟨b1, hb1⟩ : ∃ b, b = subB r.1 s := ⟨_, rfl⟩
      obtain ⟨b2, hb2⟩ : ∃ b, b = decide (r.2 ∈ s) := ⟨_, rfl⟩
      rw [← hpl, ← hb1] at HS
      rw [← hpl] at c0
      rw [← hb2] at HH
      have E1 := hid_of e1
      have HB1 := hid_of hb1
      have HB2 := hid_of hb2
      clear e1 hpl hb1 hb2
      have HNX : Hid ((b1 = true → b2 = true) → ∀ y ∈ rs.take (k + 1), subB y.1 s = true → y.2 ∈ s) := hid_of (fun h y hy hs => by
        rw [take_snoc_get E1.out, List.mem_append, List.mem_singleton] at hy
        rcases hy with hy | rfl
        · exact hx.out y hy hs
        · rw [← HB1.out] at hs
          exact of_decide_eq_true (HB2.out.symm.trans (h hs)))
      cases b1
      · have HN := hid_of (HNX.out (fun h => by cases h))
        clear HNX
        go_wp2_with (go_at_call 25; ((with_reducible refine (HS.out).mono ?_); (rintro ee w' ⟨rfl, rfl⟩)))
        go_round
        case rel => exact ⟨k + 1, by omega, by go_num, HN⟩
        case measure => simp [intOf]; omega
      · cases b2
        · have RF : Hid (q = false) := hid_of (by
            rw [HQ.out, Bool.eq_false_iff]; intro h
            have := clsB_iff.1 h r (List.mem_of_getElem? E1.out) (subB_iff.1 HB1.out.symm)
            exact absurd this (of_decide_eq_false HB2.out.symm))
          clear HNX
          go_wp2_with (first
            | (go_at_call 25; ((with_reducible refine (HS.out).mono ?_); (rintro ee w' ⟨rfl, rfl⟩)))
            | (go_at_call 26; ((with_reducible refine (HH.out).mono ?_); (rintro ee w' ⟨rfl, rfl⟩))))
          go_ret
          exact ⟨by rw [RF.out] <;> rfl, rfl⟩
        · have HN := hid_of (HNX.out (fun _ => rfl))
          clear HNX
          go_wp2_with (first
            | (go_at_call 25; ((with_reducible refine (HS.out).mono ?_); (rintro ee w' ⟨rfl, rfl⟩)))
            | (go_at_call 26; ((with_reducible refine (HH.out).mono ?_); (rintro ee w' ⟨rfl, rfl⟩))))
          go_round
          case rel => exact ⟨k + 1, by omega, by go_num, HN⟩
          case measure => simp [intOf]; omega
    · have hd : decide (k < rn) = false := by simp; omega
      have RF : Hid (q = true) := hid_of (by
        rw [HQ.out]
        have h := hx.out
        rw [List.take_of_length_le (by have := HM.out; omega)] at h
        exact clsB_iff.2 fun r hr hp => h r hr (subB_iff.2 hp))
      go_wp2
      go_ret
      exact ⟨by rw [RF.out] <;> rfl, rfl⟩
end Go.Proofs.Ytjponegeidiheaa
