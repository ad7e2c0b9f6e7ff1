/- The mathematics of WireCut: no proper beginning of an encoding is read. No condition. -/
import Derived.Test.YtijjaoabkbeeeaaWireReadsW
namespace Go.Proofs.Ytijjaoabkbeeeaa
open Go.RowKit

theorem enc_take_ge : ∀ (k n m : Nat), n ≤ k → m < (enc n).length → ∀ y ∈ (enc n).take m, 128 ≤ y := by
  intro k
  induction k with
  | zero =>
    intro n m hk h y hy
    rw [enc_lt (by omega)] at h hy
    simp at h; subst h; simp at hy
  | succ k ih =>
    intro n m hk h y hy
    by_cases h1 : n < 128
    · rw [enc_lt h1] at h hy
      simp at h; subst h; simp at hy
    · rw [enc_ge h1] at h hy
      cases m with
      | zero => simp at hy
      | succ m =>
        simp only [List.take_succ_cons, List.mem_cons, List.length_cons] at hy h
        rcases hy with rfl | hy
        · omega
        · exact ih (n / 128) m (by omega) (by omega) y hy

theorem decAt_ge : ∀ (l : List Int) (f i acc : Nat), (∀ y ∈ l, 128 ≤ y) → decAt f i acc l = none := by
  intro l
  induction l with
  | nil => intro f i acc _; cases f <;> rfl
  | cons y r ih =>
    intro f i acc h
    cases f with
    | zero => rfl
    | succ f => rw [decAt, if_pos (h y (by simp))]; exact ih _ _ _ (fun z hz => h z (by simp [hz]))

theorem dec_short {n m : Nat} (h : m < (enc n).length) : dec ((enc n).take m) = none := decAt_ge _ _ _ _ (enc_take_ge n n m (Nat.le_refl _) h)

theorem decRun_short {q : List Int} {m : Nat} (hq : q.length < 18446744073709551616) (h : m < (enc q.length ++ q).length) : decRun ((enc q.length ++ q).take m) = none := by
  rw [List.length_append] at h
  unfold decRun
  by_cases hm : m < (enc q.length).length
  · rw [List.take_append_of_le_length (by omega), dec_short hm]
  · have e : (enc q.length ++ q).take m = enc q.length ++ q.take (m - (enc q.length).length) := by
      rw [List.take_append, List.take_of_length_le (by omega)]
    rw [e, dec_enc _ _ hq]
    simp only
    rw [if_neg]
    simp only [List.length_append, List.length_take]
    omega

/-- The read of the item fails on what is left. -/
def Fails (x : It) (l : List Int) : Prop :=
  (x.kind = 0 → dec l = none) ∧ (x.kind = 1 → dec l = none) ∧ (x.kind = 2 → l = []) ∧ (x.kind ≠ 0 → x.kind ≠ 1 → x.kind ≠ 2 → decRun l = none)

theorem fails_short {x : It} {m : Nat} (hm : x.m.length ≤ 60000000000000) (h : m < (encIt x).length) : Fails x ((encIt x).take m) := by
  refine ⟨fun k => ?_, fun k => ?_, fun k => ?_, fun k0 k1 k2 => ?_⟩
  · have e : encIt x = enc x.n := by unfold encIt; rw [if_pos k]
    rw [e] at h ⊢; exact dec_short h
  · have e : encIt x = enc (zig (sgn x.n)) := by unfold encIt; rw [if_neg (by omega), if_pos k]
    rw [e] at h ⊢; exact dec_short h
  · have e : encIt x = [if x.n % 2 = 1 then 1 else 0] := by unfold encIt; rw [if_neg (by omega), if_neg (by omega), if_pos k]
    rw [e] at h ⊢; simp at h; subst h; rfl
  · have e : encIt x = enc x.m.length ++ x.m := by unfold encIt; rw [if_neg k0, if_neg k1, if_neg k2]
    rw [e] at h ⊢; exact decRun_short (by omega) h

theorem take_mid (A X B : List Int) (n : Nat) (hn : A.length + X.length ≤ n) : ((A ++ (X ++ B)).take n).drop A.length = X ++ B.take (n - A.length - X.length) := by
  rw [List.take_append, List.take_of_length_le (l := A) (by omega), List.drop_left, List.take_append, List.take_of_length_le (l := X) (by omega)]
theorem take_mid2 (A X B : List Int) (n : Nat) (h0 : A.length ≤ n) (hn : n < A.length + X.length) : ((A ++ (X ++ B)).take n).drop A.length = X.take (n - A.length) := by
  rw [List.take_append, List.take_of_length_le (l := A) (by omega), List.drop_left, List.take_append_of_le_length (by omega)]
theorem encAll_split {its : List It} {i : Nat} {x : It} (hx : its[i]? = some x) : encAll its = encAll (its.take i) ++ (encIt x ++ encAll (its.drop (i + 1))) := by
  have h1 : its = its.take i ++ (x :: its.drop (i + 1)) := by
    obtain ⟨hi, rfl⟩ := List.getElem?_eq_some_iff.1 hx
    rw [← List.drop_eq_getElem_cons hi, List.take_append_drop]
  unfold encAll
  conv => lhs; rw [h1]
  simp
/-- What lies at the item's beginning in the cut encoding. -/
theorem cut_whole {its : List It} {i n : Nat} {x : It} (hx : its[i]? = some x) (hn : (encAll (its.take i)).length + (encIt x).length ≤ n) :
    ∃ r, ((encAll its).take n).drop (encAll (its.take i)).length = encIt x ++ r := by
  rw [encAll_split hx]
  exact ⟨_, take_mid _ _ _ n hn⟩
theorem cut_part {its : List It} {i n : Nat} {x : It} (hx : its[i]? = some x) (h0 : (encAll (its.take i)).length ≤ n) (hn : n < (encAll (its.take i)).length + (encIt x).length) :
    ((encAll its).take n).drop (encAll (its.take i)).length = (encIt x).take (n - (encAll (its.take i)).length) := by
  conv => lhs; rw [encAll_split hx]
  exact take_mid2 _ _ _ n h0 hn
theorem cut_fails {its : List It} {i n : Nat} {x : It} (hx : its[i]? = some x) (hm : x.m.length ≤ 60000000000000) (h0 : (encAll (its.take i)).length ≤ n) (hn : n < (encAll (its.take i)).length + (encIt x).length) :
    Fails x (((encAll its).take n).drop (encAll (its.take i)).length) := by
  rw [cut_part hx h0 hn]
  exact fails_short hm (by omega)

end Go.Proofs.Ytijjaoabkbeeeaa
