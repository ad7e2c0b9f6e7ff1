/- For every input plexuslaw20.VarianceBlames returns true, and the arguments read afterwards as they read before; and its tied card. No condition. -/
import Derived.Test.YtdacalplnggnoaaDoorRows
import Derived.Test.YtdacalplnggnoaaDoorTie
import Derived.Test.YtdacalplnggnoaaDoorCards
import Derived.Test.YtdacalplnggnoaaDoorVarLw3
import Derived.Test.YtdacalplnggnoaaDoorVarLaid
import Derived.Test.YtdacalplnggnoaaDoorVarOpn
import Derived.WalkKit
import Derived.ProofKit
import Derived.LaidMore
import Derived.OpenShut
import Derived.ShutString
import Derived.ChangeOld
import Derived.Below
import Derived.Stop.Joined
import Derived.SevenTiedAt
import Derived.ChangeMaps5
namespace Go.Proofs.YtdacalplnggnoaaDoor.varianceBlames
open Go.ChangeShapes Go.WideShapes Go.ChangeAt Go.RowKit Go.ChangeMaps
set_option linter.unusedVariables false

theorem own : ownKnob Tryd.prog.godebug = none := by kernel_rfl
theorem laidOut : laidOutB Tryd.prog = true := by kernel_rfl

theorem walk (ua0 ub0 uc0 : Value) (ud0 : Int) (opx0 srx0 kdx0 lox0 hix0 : Int) (vnx0 vpx0 vrx0 : Value) (nx0 : Int) (vtx0 : Value) (ptx0 : Int) (vkx0 : Value) (z0 : Ex) (w : World) (hG : Gl w) (w0 : ED w ⟨opx0, srx0, kdx0, lox0, hix0, vnx0, vpx0, vrx0, nx0, vtx0, ptx0, vkx0⟩ z0) :
    Calls Tryd.prog 6 #[.agg #[ua0, ub0, uc0, .int .i64 ud0, .int .i64 opx0, .int .i64 srx0, .int .i64 kdx0, .int .i64 lox0, .int .i64 hix0, vnx0, vpx0, vrx0, .int .i64 nx0, vtx0, .int .i64 ptx0, vkx0]] w fun e w' => e = .returned (.bool true) ∧ Below w.heap.size w w' :=
  blames_law ua0 ub0 uc0 ud0 opx0 srx0 kdx0 lox0 hix0 vnx0 vpx0 vrx0 nx0 vtx0 ptx0 vkx0 z0 w hG w0

set_option maxRecDepth 100000 in
theorem lifted (os : Os) (started : os.Started) (H : Type) (enc : TypeId × Value → H) :
    ReturnsInHanded {} Tryd.checked os 6 .any (fun w args => (Rows.varianceBlamesSpec.pre enc Tryd.prog Tryd.f6 [] false w args ∧ laidMetH Tryd.prog laid2 w) ∧ sizedMet enc Tryd.prog Tryd.f6 (OpenSpec.ofChange Rows.varianceBlamesSpec) false w args)
      (Rows.varianceBlamesSpec.post enc Tryd.prog Tryd.f6 false true false false) := by
  refine returnsInHanded_of_change_and (C := Tryd.checked) (X := fun w _ => laidMetH Tryd.prog laid2 w) (fun _ _ _ hh h => h.of_heap hh) own started (by kernel_rfl) Tryd.func6
    (ChangeSpec.witness_shaped (enc := enc) (C := Tryd.checked) (os := os) (X := fun w _ => laidMetH Tryd.prog laid2 w) false (World.doorLaid Tryd.prog 4000 os) #[.agg #[.string ⟨#[]⟩, .string ⟨#[]⟩, .slice none 0 0, .int .i64 0, .int .i64 0, .int .i64 0, .int .i64 0, .int .i64 0, .int .i64 0, .slice none 0 0, .slice none 0 0, .slice none 0 0, .int .i64 0, .string ⟨#[]⟩, .int .i64 0, .slice none 0 0]] 8 rfl (World.shaped_of_RefB (by kernel_rfl) (by kernel_rfl)) (by kernel_rfl) (by kernel_rfl) (by kernel_rfl) (door_met os _)) ?_
  intro W base args ds gs before hval0 hW _ _ hL _
  have hval : ∀ (j : Nat) t v, Tryd.f6.params[j]? = some t → args[j]? = some v → Value.okWide Tryd.prog W .any base t v := hval0
  have hW' := hW
  obtain ⟨p, q, hA0, hV, rfl, hfz, hnd⟩ := hW
  have hA : DataW.TrodAll enc Tryd.prog W 0 (fun _ => true) true Tryd.f6.params.toList args.toList ds p := hA0
  rw [Tryd.params6] at hA hval
  obtain ⟨v0, vs0, d0, ds0, p0, q0, hargs, rfl, rfl, h0, r0⟩ := trodAll_cons hA
  obtain ⟨rfl, rfl, rfl⟩ := trodAll_nil r0
  obtain rfl : args = #[v0] := by cases args; simp_all
  obtain ⟨rfl, rfl⟩ := trodVars_none hV
  have k0 := h0
  have lt0 : ∀ x ∈ p0, x.block < W.heap.size := by obtain ⟨m, hm⟩ := k0; exact DataW.trod_lt m _ _ _ hm
  obtain ⟨ua0, ub0, uc0, ud0, opx0, srx0, kdx0, lox0, hix0, vnx0, vpx0, vrx0, nx0, vtx0, ptx0, vkx0, z0, rfl, w0⟩ := open_fnv (hval 0 43 v0 rfl rfl) h0
  clear hA0 hval0
  refine (walk ua0 ub0 uc0 ud0 opx0 srx0 kdx0 lox0 hix0 vnx0 vpx0 vrx0 nx0 vtx0 ptx0 vkx0 z0 W (glob_of_laid hL) w0).mono fun e W' ⟨he, bel⟩ => ?_
  subst he
  exact ⟨_, rfl, _, _, _, [], _, [], hW', trodAll_mk1 (shut_bool Tryd.underlying4 _), (trodAll_cons_mk (Below.trod laidOut (by kernel_rfl) (of_decide_eq_true (by kernel_rfl)) k0 bel lt0) trodAll_mk0), rfl, bel.frame _, fun h => by cases h⟩

theorem over : Rows.varianceBlamesRow.holds Tryd.pinned (OpenSpec.ofChange Rows.varianceBlamesSpec) :=
  OpenClaim.holds_of_wide 6 Tryd.f6 rfl rfl rfl rfl rfl rfl rfl ⟨rfl, rfl, rfl, rfl, rfl⟩ rfl rfl rfl rfl rfl (by kernel_rfl) Tryd.func6 (by kernel_rfl)
    (of_decide_eq_true (by kernel_rfl)) (by unfold Func.isWrapper; first | (rw [if_pos (by decide +kernel)]; kernel_rfl) | (rw [if_neg (by decide +kernel)]; exact ⟨rfl, rfl⟩))
    (fun os started H enc _ => lifted os started H enc)

theorem proved : Rows.VarianceBlamesCardSaid :=
  Claim7.holds_tied_plain_at .later [] [.data] true (true, "97481e1b999b5193897b017ea5dbaf6b37df5609d0a45a14f44ba1f1c7cd230f") false
    over (fun _ h => by cases h) (by kernel_rfl) (fun _ h => by cases h) varianceBlames_row_tie rfl ⟨rfl, rfl⟩ (by kernel_rfl) rfl
    (fun f fn hf hfn => by
      obtain rfl : f = 6 := Option.some.inj ((show Tryd.prog.funcNamed "plexus/plexuslaw20.VarianceBlames" = some 6 by kernel_rfl).symm.trans hf) |>.symm
      obtain rfl : fn = Tryd.f6 := (Option.some.inj (Tryd.func6.symm.trans hfn)).symm
      exact ⟨by kernel_rfl, fun j t ht => by
        rw [Tryd.params6] at ht
        have hm : t ∈ [43] := by simpa using Array.mem_of_getElem? ht
        have hall : ([43].all fun u => !Tryd.prog.wantsStandIn u) = true := by kernel_rfl
        exact (show Tryd.prog.wantsStandIn t = false by simpa using List.all_eq_true.1 hall t hm)⟩)
    (by kernel_rfl)
end Go.Proofs.YtdacalplnggnoaaDoor.varianceBlames
