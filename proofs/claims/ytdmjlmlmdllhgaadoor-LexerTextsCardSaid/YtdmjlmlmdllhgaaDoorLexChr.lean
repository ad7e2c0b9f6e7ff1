/- The characters of the declaration language. No condition. -/
import Derived.Test.YtdmjlmlmdllhgaaDoorLexMat2
namespace Go.Proofs.YtdmjlmlmdllhgaaDoor
open Go.RowKit

set_option maxRecDepth 100000 in
theorem lisBlank_any (c : Int) (w : World) : Calls Tryd.prog 60 #[.int .u8 c] w fun e w' => e = .returned (.bool (blk c)) ∧ w' = w := by
  obtain ⟨r, hr⟩ : ∃ r, r = blk c := ⟨_, rfl⟩
  rw [← hr]
  have HR := hid_of hr
  clear hr
  go_enter Tryd.func60, Tryd.ntmps60
  go_wp2
  all_goals go_ret
  all_goals
    refine ⟨congrArg (fun b => Ending.returned (Value.bool b)) ?_, rfl⟩
    rw [HR.out, Bool.eq_iff_iff]
    simp [blk]
    try omega
set_option maxRecDepth 100000 in
theorem lisLetter_any (c : Int) (w : World) : Calls Tryd.prog 63 #[.int .u8 c] w fun e w' => e = .returned (.bool (isl c)) ∧ w' = w := by
  obtain ⟨r, hr⟩ : ∃ r, r = isl c := ⟨_, rfl⟩
  rw [← hr]
  have HR := hid_of hr
  clear hr
  go_enter Tryd.func63, Tryd.ntmps63
  go_wp2
  all_goals go_ret
  all_goals
    refine ⟨congrArg (fun b => Ending.returned (Value.bool b)) ?_, rfl⟩
    rw [HR.out, Bool.eq_iff_iff]
    simp [isl]
    try omega
set_option maxRecDepth 100000 in
theorem lisDigit_any (c : Int) (w : World) : Calls Tryd.prog 65 #[.int .u8 c] w fun e w' => e = .returned (.bool (dig c)) ∧ w' = w := by
  obtain ⟨r, hr⟩ : ∃ r, r = dig c := ⟨_, rfl⟩
  rw [← hr]
  have HR := hid_of hr
  clear hr
  go_enter Tryd.func65, Tryd.ntmps65
  go_wp2
  all_goals go_ret
  all_goals
    refine ⟨congrArg (fun b => Ending.returned (Value.bool b)) ?_, rfl⟩
    rw [HR.out, Bool.eq_iff_iff]
    simp [dig]
    try omega
set_option maxRecDepth 100000 in
theorem lncm_any (c : Int) (w : World) : Calls Tryd.prog 62 #[.int .u8 c] w fun e w' => e = .returned (.bool (ncm c)) ∧ w' = w := by
  obtain ⟨r, hr⟩ : ∃ r, r = ncm c := ⟨_, rfl⟩
  rw [← hr]
  have HR := hid_of hr
  clear hr
  go_enter Tryd.func62, Tryd.ntmps62
  go_wp2
  all_goals go_ret
  all_goals
    refine ⟨congrArg (fun b => Ending.returned (Value.bool b)) ?_, rfl⟩
    rw [HR.out, Bool.eq_iff_iff]
    simp [ncm]
set_option maxRecDepth 100000 in
theorem linWord_any (c : Int) (w : World) : Calls Tryd.prog 76 #[.int .u8 c] w fun e w' => e = .returned (.bool (inw c)) ∧ w' = w := by
  obtain ⟨q, hq⟩ : ∃ q, q = isl c := ⟨_, rfl⟩
  obtain ⟨p, hp⟩ : ∃ p, p = dig c := ⟨_, rfl⟩
  have LET := hid_of (fun w => lisLetter_any c w)
  have DIG := hid_of (fun w => lisDigit_any c w)
  rw [← hq] at LET
  rw [← hp] at DIG
  obtain ⟨r, hr⟩ : ∃ r, r = inw c := ⟨_, rfl⟩
  rw [← hr]
  have HR := hid_of hr
  have HQ := hid_of hq
  have HP := hid_of hp
  clear hr hq hp
  go_enter Tryd.func76, Tryd.ntmps76
  cases q <;> cases p
  all_goals go_wp2_with (first
    | (go_at_call 63; ((with_reducible refine (LET.out w).mono ?_); (rintro e w' ⟨rfl, rfl⟩)))
    | (go_at_call 65; ((with_reducible refine (DIG.out _).mono ?_); (rintro e w' ⟨rfl, rfl⟩))))
  all_goals go_ret
  all_goals
    refine ⟨congrArg (fun b => Ending.returned (Value.bool b)) ?_, rfl⟩
    rw [HR.out]
    have h1 := HQ.out
    have h2 := HP.out
    unfold inw
    rw [Bool.eq_iff_iff]
    simp only [dig] at h2
    rw [← h1, ← h2]
    simp
end Go.Proofs.YtdmjlmlmdllhgaaDoor
