/- A rule that came in. Bounds on sizes alone. -/
import Derived.Test.YtjponegeidiheaaClsIn
namespace Go.Proofs.Ytjponegeidiheaa
open Go.RowKit Go.ChangeShapes Go.WideShapes

set_option maxRecDepth 100000 in
theorem open_rulev {H : Type} {enc : TypeId × Value → H} {w : World} {base : Nat} {v : Value} {d : DataW H} {p : List MemPlace} (hv : Value.okWide Try.prog w .any base 41 v) (h : DataW.Trod enc Try.prog w 0 (fun _ => true) true 41 v d p) :
    ∃ (a : Option Addr) (n c : Nat) (l : List Str) (s : ByteArray), v = .agg #[.slice a n c, .string s] ∧ Rd w (.slice a n c) (ss l) := by
  obtain ⟨cs, rfl, _⟩ := okWide_struct Try.underlying41 hv
  obtain ⟨fuel, hf⟩ := h
  obtain ⟨⟨v, s, l⟩, e, r⟩ := open_rule hf
  obtain ⟨ao, cap, e2, r2⟩ := r
  simp only at e2
  subst e2
  have e3 : cs = #[.slice ao (ss l).length cap, .string s] := by rw [← Array.toArray_toList (xs := cs), show cs.toList = _ from e]; rfl
  subst e3
  exact ⟨ao, _, cap, l, s, rfl, ⟨ao, cap, rfl, r2⟩⟩
end Go.Proofs.Ytjponegeidiheaa
