/- zero: reads that fail return zero values. No condition. -/
import Derived.Test.YtijjaoabkbeeeaaWireCutM
namespace Go.Proofs.Ytijjaoabkbeeeaa
open Go.RowKit

/-- The Reader has failed at off. -/
def Gone (w w' : World) (b g : Nat) (d : List Int) (off : Nat) : Prop := ∃ last, Rst w' b g d off last 2 ∧ Kept (fun k => k = b) w w'
theorem RTo.gone {w w' : World} {b g off last : Nat} {d : List Int} (h : RTo w w' b g d off last 2) : Gone w w' b g d off := ⟨last, h.1, h.2.1⟩
theorem Gone.ofAlloc {w w' : World} {b g off : Nat} {d : List Int} {o : Obj} (h : Gone (w.alloc o) w' b g d off) : Gone w w' b g d off := by
  obtain ⟨l, h1, h2⟩ := h; exact ⟨l, h1, h2.of_alloc⟩
theorem Rst.box {w : World} {b g off last : Nat} {d : List Int} {err : Int} (h : Rst w b g d off last err) (o : Obj) : Rst (w.alloc o) b g d off last err :=
  h.same (Below.heap_alloc _ _ _ h.blt) (Below.heap_alloc _ _ _ h.glt)

theorem uint_gone (b g off last : Nat) (d : List Int) (err : Int) (w : World) (h : Rst w b g d off last err) (hf : err = 2 ∨ (err = 0 ∧ dec (d.drop off) = none)) :
    Calls Try.prog 20 #[.pointer (some ⟨b, 0, none⟩)] w fun e w' => e = .returned (.int .u64 0) ∧ Gone w w' b g d off := by
  rcases hf with rfl | ⟨rfl, hf⟩
  · exact (ruint_dead b g off last d w h).mono fun e w' ⟨he, hr⟩ => ⟨he, hr.gone⟩
  · exact (ruint_bad b g off last d w h hf).mono fun e w' ⟨he, hr⟩ => ⟨he, hr.gone⟩
theorem int_gone (b g off last : Nat) (d : List Int) (err : Int) (w : World) (h : Rst w b g d off last err) (hf : err = 2 ∨ (err = 0 ∧ dec (d.drop off) = none)) :
    Calls Try.prog 21 #[.pointer (some ⟨b, 0, none⟩)] w fun e w' => e = .returned (.int .i64 0) ∧ Gone w w' b g d off := by
  rcases hf with rfl | ⟨rfl, hf⟩
  · exact (rint_dead b g off last d w h).mono fun e w' ⟨he, hr⟩ => ⟨he, hr.gone⟩
  · exact (rint_bad b g off last d w h hf).mono fun e w' ⟨he, hr⟩ => ⟨he, hr.gone⟩
theorem bool_gone (b g off last : Nat) (d : List Int) (err : Int) (w : World) (h : Rst w b g d off last err) (hf : err = 2 ∨ (err = 0 ∧ d.drop off = [])) :
    Calls Try.prog 22 #[.pointer (some ⟨b, 0, none⟩)] w fun e w' => e = .returned (.bool false) ∧ Gone w w' b g d off := by
  rcases hf with rfl | ⟨rfl, hf⟩
  · exact (rbool_dead b g off last d w h).mono fun e w' ⟨he, hr⟩ => ⟨he, hr.gone⟩
  · exact (rbool_bad b g off last d w h (Or.inl (List.drop_eq_nil_iff.1 hf))).mono fun e w' ⟨he, hr⟩ => ⟨he, hr.gone⟩
theorem bytes_gone (b g off last : Nat) (d : List Int) (err : Int) (w : World) (h : Rst w b g d off last err) (hf : err = 2 ∨ (err = 0 ∧ decRun (d.drop off) = none)) :
    Calls Try.prog 23 #[.pointer (some ⟨b, 0, none⟩)] w fun e w' => e = .returned (.slice none 0 0) ∧ Gone w w' b g d off := by
  rcases hf with rfl | ⟨rfl, hf⟩
  · exact (rbytes_dead b g off last d w h).mono fun e w' ⟨he, hr⟩ => ⟨he, hr.gone⟩
  · exact (rbytes_bad b g off last d w h hf).mono fun e w' ⟨he, hr⟩ => ⟨he, hr.gone⟩
theorem text_gone (b g off last : Nat) (d : List Int) (err : Int) (w : World) (h : Rst w b g d off last err) (hf : err = 2 ∨ (err = 0 ∧ decRun (d.drop off) = none)) :
    Calls Try.prog 24 #[.pointer (some ⟨b, 0, none⟩)] w fun e w' => e = .returned (.string ⟨#[]⟩) ∧ Gone w w' b g d off := by
  rcases hf with rfl | ⟨rfl, hf⟩
  · exact (rtext_dead b g off last d w h).mono fun e w' ⟨he, hr⟩ => ⟨he, hr.gone⟩
  · exact (rtext_bad b g off last d w h hf).mono fun e w' ⟨he, hr⟩ => ⟨he, hr.gone⟩

set_option maxRecDepth 100000 in
set_option maxHeartbeats 800000 in
theorem zero_any (x : It) (b g off last : Nat) (d : List Int) (err : Int) (w : World) (h : Rst w b g d off last err) (hf : err = 2 ∨ (err = 0 ∧ Fails x (d.drop off))) :
    Calls Try.prog 25 #[.pointer (some ⟨b, 0, none⟩), .agg #[.int .i64 x.kind, .int .u64 x.n, .slice x.ao x.m.length x.cap]] w fun e w' => e = .returned (.bool true) ∧ Gone w w' b g d off := by
  obtain ⟨kind, n, ao, m, cap⟩ := x
  have H := hid_of h
  have HF := hid_of hf
  clear h hf
  simp only
  by_cases k0 : kind = 0
  · subst k0
    go_enter Try.func25, Try.ntmps25
    go_wp2_with (go_at_call 20; refine (uint_gone b g off last d err _ (H.out.box _) (HF.out.imp id (fun h => ⟨h.1, h.2.1 rfl⟩))).mono ?_; rintro e w2 ⟨rfl, h2⟩; have R := hid_of h2; clear h2)
    go_ret
    exact ⟨rfl, R.out.ofAlloc⟩
  · by_cases k1 : kind = 1
    · subst k1
      clear k0
      go_enter Try.func25, Try.ntmps25
      go_wp2_with (go_at_call 21; refine (int_gone b g off last d err _ (H.out.box _) (HF.out.imp id (fun h => ⟨h.1, h.2.2.1 rfl⟩))).mono ?_; rintro e w2 ⟨rfl, h2⟩; have R := hid_of h2; clear h2)
      go_ret
      exact ⟨rfl, R.out.ofAlloc⟩
    · by_cases k2 : kind = 2
      · subst k2
        clear k0 k1
        go_enter Try.func25, Try.ntmps25
        go_wp2_with (go_at_call 22; refine (bool_gone b g off last d err _ (H.out.box _) (HF.out.imp id (fun h => ⟨h.1, h.2.2.2.1 rfl⟩))).mono ?_; rintro e w2 ⟨rfl, h2⟩; have R := hid_of h2; clear h2)
        go_ret
        exact ⟨rfl, R.out.ofAlloc⟩
      · have HR : Hid (err = 2 ∨ (err = 0 ∧ decRun (d.drop off) = none)) := hid_of (HF.out.imp id (fun h => ⟨h.1, h.2.2.2.2 k0 k1 k2⟩))
        have e0 : (kind == 0) = false := by simp [k0]
        have e1 : (kind == 1) = false := by simp [k1]
        have e2 : (kind == 2) = false := by simp [k2]
        clear k0 k1 k2
        by_cases k3 : kind = 3
        · subst k3
          go_enter Try.func25, Try.ntmps25
          go_wp2_with (go_at_call 23; refine (bytes_gone b g off last d err _ (H.out.box _) HR.out).mono ?_; rintro e w2 ⟨rfl, h2⟩; have R := hid_of h2; clear h2)
          go_ret
          exact ⟨rfl, R.out.ofAlloc⟩
        · have e3 : (kind == 3) = false := by simp [k3]
          clear k3
          go_enter Try.func25, Try.ntmps25
          go_wp2_with (go_at_call 24; refine (text_gone b g off last d err _ (H.out.box _) HR.out).mono ?_; rintro e w2 ⟨rfl, h2⟩; have R := hid_of h2; clear h2)
          go_ret
          exact ⟨rfl, R.out.ofAlloc⟩

end Go.Proofs.Ytijjaoabkbeeeaa
