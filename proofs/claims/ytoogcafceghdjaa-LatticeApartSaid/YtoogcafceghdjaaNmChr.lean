/- The characters of a name; what a name is. -/
import Derived.Test.YtoogcafceghdjaaProg
import Derived.Test.YtoogcafceghdjaaRow
import Derived.RowKit
import Derived.WalkSpells
import Derived.WalkLawsBesides
import Derived.IntWalk
import Derived.Outline
import Derived.WalkKit
namespace Go.Proofs.Ytoogcafceghdjaa
open Go.RowKit

def isl (c : Int) : Bool := decide (97 ≤ c) && decide (c ≤ 122)
def inw (c : Int) : Bool := isl c || (decide (48 ≤ c) && decide (c ≤ 57)) || decide (c = 45)
def isName : List Int → Bool
  | [] => false
  | c :: l => decide (l.length < 16) && isl c && (c :: l).all inw
def strBytes (s : ByteArray) : List Int := s.data.toList.map fun b => (b.toNat : Int)
theorem strBytes_length (s : ByteArray) : (strBytes s).length = s.size := by simp [strBytes]
theorem strBytes_at (s : ByteArray) (k : Nat) (h : k < s.size) : (strBytes s)[k]? = some ((s[k]).toNat : Int) := by
  have h2 : k < s.data.toList.length := by simpa using h
  simp only [strBytes, List.getElem?_map, List.getElem?_eq_getElem h2]
  rfl

set_option maxRecDepth 100000 in
theorem isLetter_any (c : Int) (w : World) : Calls Try.prog 87 #[.int .u8 c] w fun e w' => e = .returned (.bool (isl c)) ∧ w' = w := by
  obtain ⟨r, hr⟩ : ∃ r, r = isl c := ⟨_, rfl⟩
  rw [← hr]
  have HR := hid_of hr
  clear hr
  go_enter Try.func87, Try.ntmps87
  go_wp2
  all_goals go_ret
  all_goals
    refine ⟨congrArg (fun b => Ending.returned (Value.bool b)) ?_, rfl⟩
    rw [HR.out, Bool.eq_iff_iff]
    simp [isl]
    try omega
set_option maxRecDepth 100000 in
theorem inWord_any (c : Int) (w : World) : Calls Try.prog 88 #[.int .u8 c] w fun e w' => e = .returned (.bool (inw c)) ∧ w' = w := by
  obtain ⟨q, hq⟩ : ∃ q, q = isl c := ⟨_, rfl⟩
  have LET := hid_of (fun w => isLetter_any c w)
  rw [← hq] at LET
  obtain ⟨r, hr⟩ : ∃ r, r = inw c := ⟨_, rfl⟩
  rw [← hr]
  have HR := hid_of hr
  have HQ := hid_of hq
  clear hr hq
  go_enter Try.func88, Try.ntmps88
  cases q
  all_goals go_wp2_with (go_at_call 87; ((with_reducible refine (LET.out w).mono ?_); (rintro e w' ⟨rfl, rfl⟩)))
  all_goals go_ret
  all_goals
    refine ⟨congrArg (fun b => Ending.returned (Value.bool b)) ?_, rfl⟩
    rw [HR.out]
    unfold inw
    rw [← HQ.out, Bool.eq_iff_iff]
    simp
    try omega
end Go.Proofs.Ytoogcafceghdjaa
