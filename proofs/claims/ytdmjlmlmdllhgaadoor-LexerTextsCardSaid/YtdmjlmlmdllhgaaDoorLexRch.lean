/- The reference: characters, words, blanks, faults. Bounds on sizes alone. -/
import Derived.Test.YtdmjlmlmdllhgaaDoorLexLex
import Derived.Test.YtdmjlmlmdllhgaaDoorLexRva
namespace Go.Proofs.YtdmjlmlmdllhgaaDoor
open Go.RowKit

set_option maxRecDepth 100000 in
theorem qblank_any (c : Int) (w : World) : Calls Tryd.prog 44 #[.int .u8 c] w fun e w' => e = .returned (.bool (blk c)) ∧ w' = w := by
  obtain ⟨r, hr⟩ : ∃ r, r = blk c := ⟨_, rfl⟩
  rw [← hr]
  have HR := hid_of hr
  clear hr
  go_enter Tryd.func44, Tryd.ntmps44
  go_wp2
  all_goals go_ret
  all_goals
    refine ⟨congrArg (fun b => Ending.returned (Value.bool b)) ?_, rfl⟩
    rw [HR.out, Bool.eq_iff_iff]
    simp [blk]
    try omega
set_option maxRecDepth 100000 in
theorem qletter_any (c : Int) (w : World) : Calls Tryd.prog 45 #[.int .u8 c] w fun e w' => e = .returned (.bool (isl c)) ∧ w' = w := by
  obtain ⟨r, hr⟩ : ∃ r, r = isl c := ⟨_, rfl⟩
  rw [← hr]
  have HR := hid_of hr
  clear hr
  go_enter Tryd.func45, Tryd.ntmps45
  go_wp2
  all_goals go_ret
  all_goals
    refine ⟨congrArg (fun b => Ending.returned (Value.bool b)) ?_, rfl⟩
    rw [HR.out, Bool.eq_iff_iff]
    simp [isl]
    try omega
set_option maxRecDepth 100000 in
theorem qdigit_any (c : Int) (w : World) : Calls Tryd.prog 47 #[.int .u8 c] w fun e w' => e = .returned (.bool (dig c)) ∧ w' = w := by
  obtain ⟨r, hr⟩ : ∃ r, r = dig c := ⟨_, rfl⟩
  rw [← hr]
  have HR := hid_of hr
  clear hr
  go_enter Tryd.func47, Tryd.ntmps47
  go_wp2
  all_goals go_ret
  all_goals
    refine ⟨congrArg (fun b => Ending.returned (Value.bool b)) ?_, rfl⟩
    rw [HR.out, Bool.eq_iff_iff]
    simp [dig]
    try omega
set_option maxRecDepth 100000 in
theorem qpart_any (c : Int) (w : World) : Calls Tryd.prog 69 #[.int .u8 c] w fun e w' => e = .returned (.bool (inw c)) ∧ w' = w := by
  obtain ⟨q, hq⟩ : ∃ q, q = isl c := ⟨_, rfl⟩
  obtain ⟨p, hp⟩ : ∃ p, p = dig c := ⟨_, rfl⟩
  have LET := hid_of (fun w => qletter_any c w)
  have DIG := hid_of (fun w => qdigit_any c w)
  rw [← hq] at LET
  rw [← hp] at DIG
  obtain ⟨r, hr⟩ : ∃ r, r = inw c := ⟨_, rfl⟩
  rw [← hr]
  have HR := hid_of hr
  have HQ := hid_of hq
  have HP := hid_of hp
  clear hr hq hp
  go_enter Tryd.func69, Tryd.ntmps69
  cases q <;> cases p
  all_goals go_wp2_with (first
    | (go_at_call 45; ((with_reducible refine (LET.out w).mono ?_); (rintro e w' ⟨rfl, rfl⟩)))
    | (go_at_call 47; ((with_reducible refine (DIG.out _).mono ?_); (rintro e w' ⟨rfl, rfl⟩))))
  all_goals go_ret
  all_goals
    refine ⟨congrArg (fun b => Ending.returned (Value.bool b)) ?_, rfl⟩
    rw [HR.out]
    have h1 := HQ.out
    have h2 := HP.out
    unfold inw
    rw [Bool.eq_iff_iff]
    simp only [dig] at h2
    rw [← h1, ← h2]
    simp
/-- A number is returned and nothing has turned. -/
def NumP (n : Nat) (w : World) (e : Ending) (w' : World) : Prop := e = .returned (.int .i64 n) ∧ w = w'
set_option maxRecDepth 100000 in
set_option maxHeartbeats 800000 in
theorem qword_any (s : ByteArray) (i : Nat) (w : World) (hs : s.size ≤ 1000000) (hi : i ≤ s.size) : Calls Tryd.prog 46 #[.string s, .int .i64 i] w (NumP (we s i) w) := by
  obtain ⟨r, hr⟩ : ∃ r, r = we s i := ⟨_, rfl⟩
  rw [← hr]
  have HR : Hid (runF inw s i = r) := hid_of hr.symm
  have HS := hid_of hs
  clear hr
  have b0 : (0 : Int) ≤ (i : Int) := by omega
  go_enter Tryd.func46, Tryd.ntmps46
  go_wp2
  go_loop [1] (fun v => ∃ k : Nat, k ≤ s.size ∧ v = .int .i64 k ∧ Hid (runF inw s k = r)) (fun v => s.size - (intOf v).toNat)
  case atStart => exact ⟨i, hi, rfl, HR⟩
  case round =>
    clear b0
    obtain ⟨k, hk, rfl, hrun⟩ := hrel
    by_cases hlt : k < s.size
    · have d1 : decide (k < s.size) = true := decide_eq_true hlt
      have hlt' : (k : Int) < (s.size : Int) := by omega
      obtain ⟨x, hx⟩ : ∃ x : Int, x = ((s[k]).toNat : Int) := ⟨_, rfl⟩
      have hxs : ((s[k]).toNat : Int) = x := hx.symm
      have HX : Hid (gt s k = x) := hid_of (by rw [gt_lt hlt, hx])
      obtain ⟨q, hq⟩ : ∃ q, q = inw x := ⟨_, rfl⟩
      have INW : Hid (∀ w, Calls Tryd.prog 69 #[.int .u8 x] w fun e w' => e = .returned (.bool q) ∧ w = w') := hid_of (fun w => by rw [hq]; exact (qpart_any x w).mono fun _ _ h => ⟨h.1, h.2.symm⟩)
      have HQ := hid_of hq
      clear hx hq
      cases q
      · have ST : Hid (k = r) := hid_of (by rw [← hrun.out]; exact (runF_stop (by rw [HX.out]; exact HQ.out.symm)).symm)
        go_wp2_with (go_at_call 69; ((with_reducible refine (INW.out w).mono ?_); (rintro e w' ⟨rfl, rfl⟩)))
        go_ret
        exact ⟨by rw [ST.out] <;> rfl, rfl⟩
      · have ST : Hid (runF inw s (k + 1) = r) := hid_of (by rw [← hrun.out]; exact (runF_go hlt (by rw [HX.out]; exact HQ.out.symm)).symm)
        go_wp2_with (go_at_call 69; ((with_reducible refine (INW.out w).mono ?_); (rintro e w' ⟨rfl, rfl⟩)))
        go_round
        case rel => exact ⟨k + 1, by omega, by go_num, ST⟩
        case measure => simp [intOf]; omega
    · have d1 : decide (k < s.size) = false := decide_eq_false hlt
      have ST : Hid (k = r) := hid_of (by rw [← hrun.out]; exact (runF_end hlt).symm)
      go_wp2
      go_ret
      exact ⟨by rw [ST.out] <;> rfl, rfl⟩
set_option maxRecDepth 100000 in
set_option maxHeartbeats 800000 in
theorem qskip_any (s : ByteArray) (i : Nat) (w : World) (hs : s.size ≤ 1000000) (hi : i ≤ s.size) : Calls Tryd.prog 34 #[.string s, .int .i64 i] w (NumP (sk s i) w) := by
  obtain ⟨r, hr⟩ : ∃ r, r = sk s i := ⟨_, rfl⟩
  rw [← hr]
  have HR : Hid (sk s i = r) := hid_of hr.symm
  have HS := hid_of hs
  clear hr
  have b0 : (0 : Int) ≤ (i : Int) := by omega
  go_enter Tryd.func34, Tryd.ntmps34
  go_wp2
  go_loop [1] (fun v => ∃ k : Nat, k ≤ s.size ∧ v = .int .i64 k ∧ Hid (sk s k = r)) (fun v => s.size - (intOf v).toNat)
  case atStart => exact ⟨i, hi, rfl, HR⟩
  case round =>
    clear b0
    obtain ⟨k, hk, rfl, hrun⟩ := hrel
    by_cases hlt : k < s.size
    · have d1 : decide (k < s.size) = true := decide_eq_true hlt
      have hlt' : (k : Int) < (s.size : Int) := by omega
      obtain ⟨x, hx⟩ : ∃ x : Int, x = ((s[k]).toNat : Int) := ⟨_, rfl⟩
      have hxs : ((s[k]).toNat : Int) = x := hx.symm
      have HX : Hid (gt s k = x) := hid_of (by rw [gt_lt hlt, hx])
      obtain ⟨q, hq⟩ : ∃ q, q = blk x := ⟨_, rfl⟩
      have INW : Hid (∀ w, Calls Tryd.prog 44 #[.int .u8 x] w fun e w' => e = .returned (.bool q) ∧ w = w') := hid_of (fun w => by rw [hq]; exact (qblank_any x w).mono fun _ _ h => ⟨h.1, h.2.symm⟩)
      have HQ := hid_of hq
      clear hx hq
      cases q
      · by_cases h35 : x = 35
        · have d0 : (x == 35) = true := by rw [h35]; rfl
          have d2 : (x != 35) = false := by rw [h35]; rfl
          have HKK := hid_of hk
          have HLT := hid_of hlt
          have ST : Hid (skT s k = r) := hid_of (by rw [← hrun.out]; exact (sk_hash (by rw [HX.out]; exact h35)).symm)
          have HN : Hid (gt s k = 35) := hid_of (by rw [HX.out]; exact h35)
          clear h35
          go_wp2_with (go_at_call 44; ((with_reducible refine (INW.out w).mono ?_); (rintro e w' ⟨rfl, rfl⟩)))
          clear d1 hlt hlt' hxs hk d0 d2
          go_loop [1] (fun v => ∃ m : Nat, m ≤ s.size ∧ v = .int .i64 m ∧ Hid (skT s m = r) ∧ Hid (k ≤ m)) (fun v => s.size - (intOf v).toNat)
          case atStart => exact ⟨k, HKK.out, rfl, ST, hid_of (Nat.le_refl _)⟩
          case round =>
            obtain ⟨m, hm, rfl, hrun2, hkm⟩ := hrel
            by_cases hlm : m < s.size
            · have d1 : decide (m < s.size) = true := decide_eq_true hlm
              have hlt' : (m : Int) < (s.size : Int) := by omega
              obtain ⟨y, hy⟩ : ∃ y : Int, y = ((s[m]).toNat : Int) := ⟨_, rfl⟩
              have hys : ((s[m]).toNat : Int) = y := hy.symm
              have HY : Hid (gt s m = y) := hid_of (by rw [gt_lt hlm, hy])
              clear hy
              by_cases h10 : y = 10
              · have d0 : (y != 10) = false := by rw [h10]; rfl
                have ST2 : Hid (sk s m = r) := hid_of (by rw [← hrun2.out]; exact (skT_nl (by rw [HY.out]; exact h10)).symm)
                have LT : Hid (k < m) := hid_of (by
                  have h1 := hkm.out
                  by_cases e : k = m
                  · have h2 := HN.out; rw [e, HY.out, h10] at h2; cases h2
                  · omega)
                clear h10
                go_wp2
                go_round
                case rel => exact ⟨m, hm, rfl, ST2⟩
                case measure => have := LT.out; have := HLT.out; simp [intOf]; omega
              · have d0 : (y != 10) = true := by simpa using h10
                have ST2 : Hid (skT s (m + 1) = r) := hid_of (by rw [← hrun2.out]; exact (skT_go hlm (by rw [HY.out]; exact h10)).symm)
                clear h10
                go_wp2
                go_round
                case rel => exact ⟨m + 1, by omega, by go_num, ST2, hid_of (by have := hkm.out; omega)⟩
                case measure => simp [intOf]; omega
            · have d1 : decide (m < s.size) = false := decide_eq_false hlm
              have ST2 : Hid (sk s m = r) := hid_of (by rw [← hrun2.out]; exact (skT_stop (.inr hlm)).symm)
              go_wp2
              go_round
              case rel => exact ⟨m, hm, rfl, ST2⟩
              case measure => have := HLT.out; simp [intOf]; omega
        · have d0 : (x == 35) = false := by simpa using h35
          have ST : Hid (k = r) := hid_of (by rw [← hrun.out]; exact (sk_stop (by rw [HX.out]; exact HQ.out.symm) (by rw [HX.out]; exact h35)).symm)
          clear h35
          go_wp2_with (go_at_call 44; ((with_reducible refine (INW.out w).mono ?_); (rintro e w' ⟨rfl, rfl⟩)))
          go_ret
          exact ⟨by rw [ST.out] <;> rfl, rfl⟩
      · have ST : Hid (sk s (k + 1) = r) := hid_of (by rw [← hrun.out]; exact (sk_blk hlt (by rw [HX.out]; exact HQ.out.symm)).symm)
        have d2 : (x != 35) = true := by
          have h1 := HQ.out
          simp only [bne_iff_ne, ne_eq]
          intro h2; rw [h2] at h1; cases h1
        go_wp2_with (go_at_call 44; ((with_reducible refine (INW.out w).mono ?_); (rintro e w' ⟨rfl, rfl⟩)))
        go_round
        case rel => exact ⟨k + 1, by omega, by go_num, ST⟩
        case measure => simp [intOf]; omega
    · have d1 : decide (k < s.size) = false := decide_eq_false hlt
      have ST : Hid (k = r) := hid_of (by rw [← hrun.out]; exact (sk_end hlt).symm)
      go_wp2
      go_ret
      exact ⟨by rw [ST.out] <;> rfl, rfl⟩
set_option maxRecDepth 100000 in
set_option maxHeartbeats 800000 in
theorem qfault_any (c p : Int) (w : World) : Calls Tryd.prog 33 #[.int .i64 c, .int .i64 p] w (NexBad c p w) := by
  have HI1 := hid_of infoTok
  have HI2 := hid_of infoFlt
  go_enter Tryd.func33, Tryd.ntmps33
  go_wp2
  refine bodyPost_ret (res_ctc (cs := #[.int .i64 0, .string ⟨#[]⟩, .int .i64 0, .int .i64 0]) (cs2 := #[.int .i64 c, .int .i64 p]) rfl w.heap.size (w.heap.size + 1) rfl rfl (two_a _ _ _) (two_b _ _ _) Tryd.underlying25 rfl HI1.out Tryd.underlying28 rfl HI2.out) rfl ⟨rfl, ?_⟩
  exact bel_two _ _ _
end Go.Proofs.YtdmjlmlmdllhgaaDoor
