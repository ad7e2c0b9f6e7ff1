/- Expressions as trees, their signs and variances. No condition. -/
import Derived.Test.YtdacalplnggnoaaDoorRow
namespace Go.Proofs.YtdacalplnggnoaaDoor

/-- An expression: its operation, the sort and the kind of its type, how many parts the type's lattice has, the first part's kind and bounds, its number, its offset, its kids. -/
inductive Ex where
  | mk (op sr kd : Int) (np : Nat) (pk pl ph n pt : Int) (ks : List Ex)
def Ex.op : Ex → Int | ⟨op, _, _, _, _, _, _, _, _, _⟩ => op
def Ex.sr : Ex → Int | ⟨_, sr, _, _, _, _, _, _, _, _⟩ => sr
def Ex.kd : Ex → Int | ⟨_, _, kd, _, _, _, _, _, _, _⟩ => kd
def Ex.np : Ex → Nat | ⟨_, _, _, np, _, _, _, _, _, _⟩ => np
def Ex.pk : Ex → Int | ⟨_, _, _, _, pk, _, _, _, _, _⟩ => pk
def Ex.pl : Ex → Int | ⟨_, _, _, _, _, pl, _, _, _, _⟩ => pl
def Ex.ph : Ex → Int | ⟨_, _, _, _, _, _, ph, _, _, _⟩ => ph
def Ex.n : Ex → Int | ⟨_, _, _, _, _, _, _, n, _, _⟩ => n
def Ex.pt : Ex → Int | ⟨_, _, _, _, _, _, _, _, pt, _⟩ => pt
def Ex.ks : Ex → List Ex | ⟨_, _, _, _, _, _, _, _, _, ks⟩ => ks
theorem ex_ind {P : Ex → Prop} (h : ∀ op sr kd np pk pl ph n pt ks, (∀ p ∈ ks, P p) → P ⟨op, sr, kd, np, pk, pl, ph, n, pt, ks⟩) : ∀ t, P t := by
  have : ∀ m t, SizeOf.sizeOf t < m → P t := by
    intro m
    induction m with
    | zero => intro t h; omega
    | succ m ih =>
      rintro ⟨op, sr, kd, np, pk, pl, ph, n, pt, ks⟩ hn
      refine h _ _ _ _ _ _ _ _ _ _ fun p hp => ih p ?_
      have := List.sizeOf_lt_of_mem hp
      simp only [Ex.mk.sizeOf_spec] at hn
      omega
  exact fun t => this _ t (Nat.lt_succ_self _)

def flip (v : Int) : Int := if v = 0 then 0 else if v = 1 then 2 else if v = 2 then 1 else 3
def both (a b : Int) : Int :=
  if flip (flip a) = 0 then flip (flip b) else if flip (flip a) = flip (flip b) then flip (flip b) else if flip (flip b) = 0 then flip (flip a) else 3
def turnF (s v : Int) : Int := if s = 45 then flip v else if s = 61 then (if v = 0 then v else 3) else v
def numS (k : Int) : Int := if k = 2 then 43 else if k = 3 then 45 else 61
def sumS (t : Ex) : Int := if t.kd = 5 ∧ t.np = 1 then (if t.pk = 2 ∧ t.pl < 0 ∨ t.pk = 3 ∧ t.ph > 0 then 61 else numS t.pk) else 61
def sizeB (t : Ex) : Bool := if t.sr = 4 then true else if t.sr = 0 then decide (t.kd = 4 ∨ t.kd = 5 ∨ t.kd = 10) else false
def bel (ao an bo bn : Int) : Bool := if ao = 6 then true else if ao = 1 ∨ ao = 2 then decide (ao = bo ∧ an ≤ bn) else false
def choS (yes no : Ex) : Int := if bel no.op no.n yes.op yes.n then 43 else if bel yes.op yes.n no.op no.n then 45 else 61
def plusIf (b : Bool) : Int := if b then 43 else 61
/-- The signs of the operations, as they are laid. -/
def SIG : List ByteArray := [⟨#[]⟩, ⟨#[]⟩, ⟨#[]⟩, ⟨#[]⟩, ⟨#[]⟩, ⟨#[]⟩, ⟨#[]⟩, ⟨#[63, 43, 43]⟩, ⟨#[43, 43]⟩, ⟨#[43, 43]⟩, ⟨#[45]⟩, ⟨#[45, 43]⟩, ⟨#[45, 43]⟩, ⟨#[61, 61]⟩, ⟨#[61, 43]⟩, ⟨#[45, 43]⟩, ⟨#[43, 43]⟩, ⟨#[43, 43]⟩, ⟨#[43, 45]⟩, ⟨#[43]⟩, ⟨#[43, 61]⟩, ⟨#[43]⟩, ⟨#[63]⟩, ⟨#[]⟩, ⟨#[]⟩, ⟨#[]⟩, ⟨#[43, 43]⟩, ⟨#[61]⟩, ⟨#[43, 61, 61]⟩, ⟨#[63]⟩, ⟨#[63]⟩, ⟨#[63]⟩, ⟨#[43]⟩, ⟨#[43]⟩, ⟨#[61]⟩, ⟨#[43]⟩, ⟨#[61]⟩, ⟨#[63]⟩]
def sg (op : Nat) : ByteArray := SIG.getD op ⟨#[]⟩
def formB (t : Ex) : Bool := if t.op = 23 ∨ t.op = 25 then true else if t.op = 24 then decide (t.ks.length % 2 = 0) else decide (1 ≤ t.op ∧ t.op ≤ 37) && decide (t.ks.length = (sg t.op.toNat).size)
def z0 : Ex := ⟨0, 0, 0, 0, 0, 0, 0, 0, 0, []⟩
def tabS (t : Ex) (i : Nat) : Int := (((sg t.op.toNat).data.toList.getD i 0).toNat : Int)
def sgn (t : Ex) (i : Nat) : Int :=
  if t.op = 7 ∧ i = 0 then choS (t.ks.getD 1 z0) (t.ks.getD 2 z0)
  else if t.op = 22 then numS t.kd
  else if t.op = 31 then numS (t.ks.getD i z0).kd
  else if t.op = 30 then sumS (t.ks.getD i z0)
  else if t.op = 29 then plusIf (sizeB (t.ks.getD i z0))
  else if t.op = 37 then plusIf (decide ((t.ks.getD i z0).kd = 8))
  else if t.op = 23 then plusIf (decide ((t.ks.getD i z0).sr ≠ 3))
  else if t.op = 24 then plusIf (decide (i % 2 = 1))
  else if t.op = 25 then 43
  else tabS t i
/-- What the kids in front of i make, their variances in vs. -/
def accV (t : Ex) (vs : List Int) : Nat → Int
  | 0 => 0
  | i + 1 => both (accV t vs i) (turnF (sgn t i) (vs.getD i 3))
def vfrom (t : Ex) (vs : List Int) : Int := if formB t then (if t.op = 5 then 1 else accV t vs vs.length) else 3
mutual
def vary : Ex → Int
  | ⟨op, sr, kd, np, pk, pl, ph, n, pt, ks⟩ => vfrom ⟨op, sr, kd, np, pk, pl, ph, n, pt, ks⟩ (varys ks)
def varys : List Ex → List Int
  | [] => []
  | k :: ks => vary k :: varys ks
end
theorem varys_map : ∀ ks, varys ks = ks.map vary
  | [] => by rw [varys]; rfl
  | k :: ks => by rw [varys, varys_map ks]; rfl
theorem vary_eq (t : Ex) : vary t = vfrom t (t.ks.map vary) := by cases t; rw [vary, varys_map]; rfl
theorem flip_range (v : Int) : 0 ≤ flip v ∧ flip v ≤ 3 := by unfold flip; split <;> (try split) <;> (try split) <;> omega
theorem both_range (a b : Int) : 0 ≤ both a b ∧ both a b ≤ 3 := by
  have := flip_range (flip a)
  have := flip_range (flip b)
  unfold both; split <;> (try split) <;> (try split) <;> omega
theorem accV_range (t : Ex) (vs : List Int) : ∀ i, 0 ≤ accV t vs i ∧ accV t vs i ≤ 3
  | 0 => by rw [accV]; omega
  | i + 1 => by rw [accV]; exact both_range _ _
theorem vary_range (t : Ex) : 0 ≤ vary t ∧ vary t ≤ 3 := by
  rw [vary_eq]
  have := accV_range t (t.ks.map vary) (t.ks.map vary).length
  unfold vfrom; split <;> (try split) <;> omega
/-- Every node has at most 300 kids. -/
inductive Wid : Ex → Prop
  | mk {t : Ex} (hl : t.ks.length ≤ 300) (hk : ∀ k ∈ t.ks, Wid k) : Wid t
theorem Wid.len {t : Ex} (h : Wid t) : t.ks.length ≤ 300 := by cases h; assumption
theorem Wid.kid {t k : Ex} (h : Wid t) (hk : k ∈ t.ks) : Wid k := by cases h; rename_i h1 h2; exact h2 k hk
/-- An expression below (or at) t has the offset a. -/
inductive Has : Ex → Int → Prop
  | here (t : Ex) : Has t t.pt
  | kid {t k : Ex} {a : Int} (hk : k ∈ t.ks) (h : Has k a) : Has t a
theorem flip3 (v : Int) : flip (flip (flip v)) = flip v := by
  have := flip_range v
  rcases (show flip v = 0 ∨ flip v = 1 ∨ flip v = 2 ∨ flip v = 3 by omega) with h | h | h | h <;> rw [h] <;> rfl
theorem flip2 {v : Int} (h : 0 ≤ v ∧ v ≤ 3) : flip (flip v) = v := by
  rcases (show v = 0 ∨ v = 1 ∨ v = 2 ∨ v = 3 by omega) with h | h | h | h <;> subst h <;> rfl
end Go.Proofs.YtdacalplnggnoaaDoor
