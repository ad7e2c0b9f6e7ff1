/- The reference's Equivalent. Bounds on sizes alone. -/
import Derived.Test.YtjponegeidiheaaClsRch2
namespace Go.Proofs.Ytjponegeidiheaa
open Go.RowKit

/-- Does a list of rules entail a rule. -/
noncomputable def entB (U : List Str) (rs : List Gr) (r : Gr) : Bool := decide (r.2 ∈ clF U rs r.1)
noncomputable def eqvB (U : List Str) (A B : List Gr) : Bool := A.all (entB U B) && B.all (entB U A)
theorem RuR.cel {w : World} {ro : Option Addr} {rn rc : Nat} {rs : List Gr} (h : RuR w (.slice ro rn rc) rs) {k : Nat} (hk : k < rn) : ∃ g o a c r, ro = some ⟨g, o, none⟩ ∧ rs[k]? = some r ∧ w.cell? ⟨g, o + k * 2, none⟩ = some (.slice a r.1.length c) ∧ w.cell? ⟨g, o + k * 2 + 1, none⟩ = some (.string (ba r.2)) ∧ Rd w (.slice a r.1.length c) (ss r.1) := by
  obtain ⟨hm, _⟩ := h.len
  obtain ⟨r, hr⟩ : ∃ r, rs[k]? = some r := ⟨_, List.getElem?_eq_getElem (by omega)⟩
  obtain ⟨g, o, a, c, e, c0, c1, rr⟩ := h.get hr
  exact ⟨g, o, a, c, r, e, hr, c0, c1, rr⟩
/-- One round of one of the loops, whatever world. -/
def EqR (w : World) (uo : Option Addr) (un uc : Nat) (ao : Option Addr) (an ac : Nat) (A : List Gr) (bo : Option Addr) (bn bc : Nat) (f : Gr → Bool) : Prop :=
  ∀ k wr, k < an → Below w.heap.size w wr → ∃ g o a c m bx r, ao = some ⟨g, o, none⟩ ∧ A[k]? = some r ∧ wr.cell? ⟨g, o + k * 2, none⟩ = some (.slice a m c) ∧ wr.cell? ⟨g, o + k * 2 + 1, none⟩ = some (.string bx) ∧
    Hid (Calls Try.prog 29 #[.slice uo un uc, .slice bo bn bc, .agg #[.slice a m c, .string bx]] wr fun e w' => e = .returned (.bool (f r)) ∧ Below w.heap.size w w')
theorem eqr_of {uo : Option Addr} {un uc : Nat} {U : List Str} {ao : Option Addr} {an ac : Nat} {A : List Gr} {bo : Option Addr} {bn bc : Nat} {B : List Gr} {w : World} (hU : Rd w (.slice uo un uc) (ss U)) (hun : un ≤ 1000000) (hA : RuR w (.slice ao an ac) A) (hB : RuR w (.slice bo bn bc) B) (hbn : bn ≤ 1000000) (hl : ∀ r ∈ A, r.1.length ≤ 1000000) :
    EqR w uo un uc ao an ac A bo bn bc (entB U B) := fun k wr hk hb => by
  obtain ⟨g, o, a, c, r, e, hr, c0, c1, rr⟩ := (hA.at hb).cel hk
  refine ⟨g, o, a, c, _, _, r, e, hr, c0, c1, hid_of ?_⟩
  exact (rent_any uo un uc U bo bn bc B a _ c r.1 r.2 wr (hU.at hb) hun (hB.at hb) hbn rr (hl r (List.mem_of_getElem? hr)) (entB U B r) rfl).mono fun e w' ⟨h1, h2⟩ => ⟨h1, hb.trans (h2.mono hb.size)⟩

set_option maxRecDepth 100000 in
set_option maxHeartbeats 1600000 in
theorem reqv_any (uo : Option Addr) (un uc : Nat) (U : List Str) (ao : Option Addr) (an ac : Nat) (A : List Gr) (bo : Option Addr) (bn bc : Nat) (B : List Gr) (w : World) (hU : Rd w (.slice uo un uc) (ss U)) (hun : un ≤ 1000000) (hA : RuR w (.slice ao an ac) A) (han : an ≤ 1000000) (hB : RuR w (.slice bo bn bc) B) (hbn : bn ≤ 1000000) (hla : ∀ r ∈ A, r.1.length ≤ 1000000) (hlb : ∀ r ∈ B, r.1.length ≤ 1000000) :
    Calls Try.prog 32 #[.slice uo un uc, .slice ao an ac, .slice bo bn bc] w fun e w' => e = .returned (.bool (eqvB U A B)) ∧ Below w.heap.size w w' := by
  have E1 := hid_of (eqr_of hU hun hA hB hbn hla)
  have E2 := hid_of (eqr_of hU hun hB hA han hlb)
  have HA := hid_of hA.len.1
  have HB := hid_of hB.len.1
  obtain ⟨q, hq⟩ : ∃ q, q = eqvB U A B := ⟨_, rfl⟩
  rw [← hq]
  have HQ : Hid (q = (A.all (entB U B) && B.all (entB U A))) := hid_of hq
  obtain ⟨f, hf⟩ : ∃ f, f = entB U B := ⟨_, rfl⟩
  obtain ⟨h, hh⟩ : ∃ h, h = entB U A := ⟨_, rfl⟩
  rw [← hf, ← hh] at HQ
  rw [← hf] at E1
  rw [← hh] at E2
  clear hU hA hB hq hla hlb hf hh
  go_enter Try.func32, Try.ntmps32
  go_wp2
  go_loopw [7] (fun iv wr => ∃ k : Nat, k ≤ an ∧ iv = .int .i64 k ∧ Hid ((A.take k).all f = true) ∧ Hid (Below w.heap.size w wr)) (fun iv _ => an - (intOf iv).toNat)
  case atStart => exact ⟨0, Nat.zero_le _, rfl, hid_of rfl, hid_of (Below.refl _ _)⟩
  case round =>
    obtain ⟨k, hk, rfl, hx, hb⟩ := hrel
    by_cases hlt : k < an
    · have hd : decide (k < an) = true := by simp; omega
      obtain ⟨g, o, a, c, m, bx, r, rfl, hr, c0, c1, HE⟩ := E1.out k wr hlt hb.out
      have HR := hid_of hr
      obtain ⟨fr, hfr⟩ : ∃ fr, fr = f r := ⟨_, rfl⟩
      rw [← hfr] at HE
      have HF := hid_of hfr
      clear hr hfr
      cases fr
      · have RF : Hid (q = false) := hid_of (by
          rw [HQ.out]
          have : A.all f = false := by
            rw [Bool.eq_false_iff]
            intro h1
            have := List.all_eq_true.1 h1 r (List.mem_of_getElem? HR.out)
            rw [← HF.out] at this
            cases this
          rw [this]; rfl)
        go_wp2_with (go_at_call 29; ((with_reducible refine (HE.out).mono ?_); (rintro ee w2 ⟨rfl, q1⟩)); have B2 := hid_of q1; clear q1)
        go_ret
        exact ⟨by rw [RF.out] <;> rfl, B2.out⟩
      · have HN : Hid ((A.take (k + 1)).all f = true) := hid_of (by rw [take_snoc_get HR.out, List.all_append, hx.out]; simp [HF.out.symm])
        go_wp2_with (go_at_call 29; ((with_reducible refine (HE.out).mono ?_); (rintro ee w2 ⟨rfl, q1⟩)); have B2 := hid_of q1; clear q1)
        go_roundw
        case rel => exact ⟨k + 1, by omega, by go_num, HN, B2⟩
        case measure => simp [intOf]; omega
    · have hd : decide (k < an) = false := by simp; omega
      have HAL : Hid (A.all f = true) := hid_of (by
        have h1 := hx.out
        rw [List.take_of_length_le (by have := HA.out; omega)] at h1
        exact h1)
      go_wp2
      go_loopw [8] (fun iv wq => ∃ k : Nat, k ≤ bn ∧ iv = .int .i64 k ∧ Hid ((B.take k).all h = true) ∧ Hid (Below w.heap.size w wq)) (fun iv _ => bn - (intOf iv).toNat)
      case atStart => exact ⟨0, Nat.zero_le _, rfl, hid_of rfl, hb⟩
      case round =>
        obtain ⟨j, hj, rfl, hy, hbq⟩ := hrel
        by_cases hlt2 : j < bn
        · have hd2 : decide (j < bn) = true := by simp; omega
          obtain ⟨g, o, a, c, m, bx, r, rfl, hr, c0, c1, HE⟩ := E2.out j _ hlt2 hbq.out
          have HR := hid_of hr
          obtain ⟨fr, hfr⟩ : ∃ fr, fr = h r := ⟨_, rfl⟩
          rw [← hfr] at HE
          have HF := hid_of hfr
          clear hr hfr
          cases fr
          · have RF : Hid (q = false) := hid_of (by
              rw [HQ.out]
              have : B.all h = false := by
                rw [Bool.eq_false_iff]
                intro h1
                have := List.all_eq_true.1 h1 r (List.mem_of_getElem? HR.out)
                rw [← HF.out] at this
                cases this
              rw [this, Bool.and_false])
            go_wp2_with (go_at_call 29; ((with_reducible refine (HE.out).mono ?_); (rintro ee w2 ⟨rfl, q1⟩)); have B2 := hid_of q1; clear q1)
            go_ret
            exact ⟨by rw [RF.out] <;> rfl, B2.out⟩
          · have HN : Hid ((B.take (j + 1)).all h = true) := hid_of (by rw [take_snoc_get HR.out, List.all_append, hy.out]; simp [HF.out.symm])
            go_wp2_with (go_at_call 29; ((with_reducible refine (HE.out).mono ?_); (rintro ee w2 ⟨rfl, q1⟩)); have B2 := hid_of q1; clear q1)
            go_roundw
            case rel => exact ⟨j + 1, by omega, by go_num, HN, B2⟩
            case measure => simp [intOf]; omega
        · have hd2 : decide (j < bn) = false := by simp; omega
          have RF : Hid (q = true) := hid_of (by
            rw [HQ.out, HAL.out]
            have h1 := hy.out
            rw [List.take_of_length_le (by have := HB.out; omega)] at h1
            rw [h1]; rfl)
          go_wp2
          go_ret
          exact ⟨by rw [RF.out] <;> rfl, hbq.out⟩
end Go.Proofs.Ytjponegeidiheaa
