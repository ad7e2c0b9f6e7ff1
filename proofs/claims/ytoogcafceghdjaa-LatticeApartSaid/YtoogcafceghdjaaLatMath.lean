/- Descriptions of lattices as trees, and what is asked of them. No condition. -/
import Derived.Test.YtoogcafceghdjaaNmSrt
namespace Go.Proofs.Ytoogcafceghdjaa

/-- A rule in names: its premises, its conclusion. -/
abbrev Gr := List Str × Str
def nameB (x : Str) : Bool := isName (strBytes (ba x))
inductive Lat where
  | mk (k lo hi : Int) (ns : List Str) (ps : List Lat) (rs : List Gr)
def Lat.k : Lat → Int | ⟨k, _, _, _, _, _⟩ => k
def Lat.lo : Lat → Int | ⟨_, lo, _, _, _, _⟩ => lo
def Lat.hi : Lat → Int | ⟨_, _, hi, _, _, _⟩ => hi
def Lat.ns : Lat → List Str | ⟨_, _, _, ns, _, _⟩ => ns
def Lat.ps : Lat → List Lat | ⟨_, _, _, _, ps, _⟩ => ps
def Lat.rs : Lat → List Gr | ⟨_, _, _, _, _, rs⟩ => rs
theorem lat_size {p : Lat} {k lo hi : Int} {ns : List Str} {ps : List Lat} {rs : List Gr} (h : p ∈ ps) : SizeOf.sizeOf p < SizeOf.sizeOf (Lat.mk k lo hi ns ps rs) := by
  have := List.sizeOf_lt_of_mem h
  simp only [Lat.mk.sizeOf_spec]
  omega
theorem lat_ind {P : Lat → Prop} (h : ∀ k lo hi ns ps rs, (∀ p ∈ ps, P p) → P ⟨k, lo, hi, ns, ps, rs⟩) : ∀ t, P t := by
  have : ∀ n t, SizeOf.sizeOf t < n → P t := by
    intro n
    induction n with
    | zero => intro t h; omega
    | succ n ih =>
      rintro ⟨k, lo, hi, ns, ps, rs⟩ hn
      exact h _ _ _ _ _ _ fun p hp => ih p (by have := lat_size (k := k) (lo := lo) (hi := hi) (ns := ns) (rs := rs) hp; omega)
  exact fun t => this _ t (Nat.lt_succ_self _)
noncomputable instance : DecidableEq Lat := fun _ _ => Classical.propDecidable _

/-- The kinds, split. -/
theorem kinds (k : Int) : k = 1 ∨ k = 2 ∨ k = 3 ∨ k = 4 ∨ k = 5 ∨ k = 6 ∨ k = 7 ∨ k = 8 ∨ k = 9 ∨ k = 10 ∨ (k ≠ 1 ∧ k ≠ 2 ∧ k ≠ 3 ∧ k ≠ 4 ∧ k ≠ 5 ∧ k ≠ 6 ∧ k ≠ 7 ∧ k ≠ 8 ∧ k ≠ 9 ∧ k ≠ 10) := by omega

mutual
def chainL : Lat → Bool
  | ⟨k, _, _, _, ps, _⟩ => if k = 7 then decide (ps.length = 2) && chainsL ps else decide (k = 1 ∨ k = 2 ∨ k = 3)
def chainsL : List Lat → Bool
  | [] => true
  | p :: ps => chainL p && chainsL ps
end
mutual
def finL : Lat → Bool
  | ⟨k, _, _, ns, ps, _⟩ => if k = 1 ∨ k = 2 ∨ k = 3 ∨ k = 10 then true else if k = 4 ∨ k = 8 then !ns.isEmpty else if k = 5 then !ns.isEmpty && finsL ps else if k = 6 ∨ k = 7 then finsL ps else false
def finsL : List Lat → Bool
  | [] => true
  | p :: ps => finL p && finsL ps
end
mutual
def rfinL : Lat → Bool
  | ⟨k, _, _, ns, ps, _⟩ => if k = 9 ∨ ns = [] ∧ (k = 4 ∨ k = 8 ∨ k = 5) then false else rfinsL ps
def rfinsL : List Lat → Bool
  | [] => true
  | p :: ps => rfinL p && rfinsL ps
end
mutual
def distL : Lat → Bool
  | ⟨k, _, _, _, ps, _⟩ => if k = 8 ∨ k = 10 then false else distsL ps
def distsL : List Lat → Bool
  | [] => true
  | p :: ps => distL p && distsL ps
end
mutual
def depthL : Lat → Nat
  | ⟨_, _, _, _, ps, _⟩ => depthsL ps + 1
def depthsL : List Lat → Nat
  | [] => 0
  | p :: ps => max (depthL p) (depthsL ps)
end
/-- A node has the fields of its kind, and no others. -/
def shapeB (t : Lat) : Bool :=
  if t.k = 1 ∨ t.k = 9 then decide (t.lo = 0 ∧ t.hi = 0 ∧ t.rs = [] ∧ t.ps = [] ∧ t.ns = [])
  else if t.k = 2 ∨ t.k = 3 then decide (t.rs = [] ∧ t.ps = [] ∧ t.ns = [])
  else if t.k = 4 ∨ t.k = 8 then decide (t.lo = 0 ∧ t.hi = 0 ∧ t.rs = [] ∧ t.ps = [])
  else if t.k = 5 then decide (t.lo = 0 ∧ t.hi = 0 ∧ t.rs = [] ∧ t.ps.length = 1)
  else if t.k = 6 then decide (t.lo = 0 ∧ t.hi = 0 ∧ t.rs = [] ∧ t.ps.length = t.ns.length ∧ t.ns ≠ [])
  else if t.k = 7 then decide (t.lo = 0 ∧ t.hi = 0 ∧ t.rs = [] ∧ t.ps.length = 2 ∧ t.ns = [])
  else if t.k = 10 then decide (t.lo = 0 ∧ t.hi = 0 ∧ t.ps = [] ∧ t.ns ≠ [])
  else false
def limL (k : Int) : Nat := if k = 6 then 8 else if k = 10 then 12 else 32
def namesB (t : Lat) : Bool := t.ns.all nameB && decide t.ns.Nodup && (decide (t.k = 6) || ssB t.ns)
def ruleB (ns : List Str) (r : Gr) : Bool := !r.1.isEmpty && ssB r.1 && (r.1 ++ [r.2]).all fun s => decide (s ∈ ns)
def rulesB (ns : List Str) (rs : List Gr) : Bool := rs.all (ruleB ns)
/-- The first error of a node, without those of its place and of its parts. -/
def nodeE (t : Lat) : Int :=
  if shapeB t = false then 1 else if limL t.k < t.ns.length ∨ 32 < t.rs.length then 6 else if (namesB t && rulesB t.ns t.rs) = false then 3
  else if t.lo > t.hi ∨ t.lo < -1000000000 ∨ t.hi > 1000000000 then 5 else if t.k = 7 ∧ chainsL (t.ps.take 1) = false then 4 else 0
mutual
/-- The nodes that are counted and the first error, of a tree at depth d behind c nodes. -/
def chkT : Lat → Nat → Nat → Nat × Int
  | ⟨k, lo, hi, ns, ps, rs⟩, d, c => if 6 < d ∨ 64 ≤ c then (c, 6) else if nodeE ⟨k, lo, hi, ns, ps, rs⟩ ≠ 0 then (c + 1, nodeE ⟨k, lo, hi, ns, ps, rs⟩) else chkTs ps (d + 1) (c + 1)
def chkTs : List Lat → Nat → Nat → Nat × Int
  | [], _, c => (c, 0)
  | p :: ps, d, c => if (chkT p d c).2 ≠ 0 then chkT p d c else chkTs ps d (chkT p d c).1
end
def chkL (t : Lat) : Int := (chkT t 1 0).2
theorem chkT_eq (t : Lat) (d c : Nat) : chkT t d c = if 6 < d ∨ 64 ≤ c then (c, 6) else if nodeE t ≠ 0 then (c + 1, nodeE t) else chkTs t.ps (d + 1) (c + 1) := by
  cases t
  rw [chkT]
  rfl
mutual
theorem chkT_le : ∀ (t : Lat) (d c : Nat), c ≤ 64 → c ≤ (chkT t d c).1 ∧ (chkT t d c).1 ≤ 64
  | ⟨k, lo, hi, ns, ps, rs⟩, d, c, h => by
    rw [chkT]
    split
    · exact ⟨Nat.le_refl _, h⟩
    · split
      · constructor <;> simp only <;> omega
      · have := chkTs_le ps (d + 1) (c + 1) (by omega)
        omega
theorem chkTs_le : ∀ (l : List Lat) (d c : Nat), c ≤ 64 → c ≤ (chkTs l d c).1 ∧ (chkTs l d c).1 ≤ 64
  | [], d, c, h => by rw [chkTs]; exact ⟨Nat.le_refl _, h⟩
  | p :: ps, d, c, h => by
    rw [chkTs]
    have h1 := chkT_le p d c h
    split
    · exact h1
    · have := chkTs_le ps d _ h1.2
      omega
end
mutual
theorem chkT_0 : ∀ (t : Lat) (d c : Nat), (chkT t d c).2 = 0 → nodeE t = 0
  | ⟨k, lo, hi, ns, ps, rs⟩, d, c, h => by
    rw [chkT] at h
    split at h
    · cases h
    · split at h
      · exact h
      · rename_i h2
        exact Classical.not_not.1 h2
end
/-- A tree without an error at a depth behind some nodes: so are its parts. -/
theorem chkTs_mem : ∀ (l : List Lat) (d c : Nat), (chkTs l d c).2 = 0 → ∀ p ∈ l, ∃ c', (chkT p d c').2 = 0 := by
  intro l
  induction l with
  | nil => intro d c _ p hp; cases hp
  | cons q l ih =>
    intro d c h p hp
    rw [chkTs] at h
    split at h
    · rename_i h2; exact absurd h h2
    · rename_i h2
      rcases List.mem_cons.1 hp with rfl | hp
      · exact ⟨c, Classical.not_not.1 h2⟩
      · exact ih _ _ h p hp
/-- Every node of the tree is without an error. -/
inductive Okay : Lat → Prop
  | mk {t : Lat} (h : nodeE t = 0) (hp : ∀ p ∈ t.ps, Okay p) : Okay t
theorem okay_of : ∀ (t : Lat) (d c : Nat), (chkT t d c).2 = 0 → Okay t := by
  refine lat_ind ?_
  intro k lo hi ns ps rs ih d c h
  refine .mk (chkT_0 _ d c h) fun p hp => ?_
  rw [chkT_eq] at h
  split at h
  · cases h
  · split at h
    · rename_i h2; exact absurd h h2
    · obtain ⟨c', h3⟩ := chkTs_mem _ _ _ h p hp
      exact ih p hp _ _ h3
theorem all_map {f : Lat → Bool} {fs : List Lat → Bool} (h0 : fs [] = true) (h1 : ∀ p ps, fs (p :: ps) = (f p && fs ps)) : ∀ l, fs l = l.all f := by
  intro l
  induction l with
  | nil => rw [h0]; rfl
  | cons p l ih => rw [h1, ih]; rfl
theorem chainsL_all : ∀ l, chainsL l = l.all chainL := all_map (by rw [chainsL]) (fun p ps => by rw [chainsL])
theorem finsL_all : ∀ l, finsL l = l.all finL := all_map (by rw [finsL]) (fun p ps => by rw [finsL])
theorem rfinsL_all : ∀ l, rfinsL l = l.all rfinL := all_map (by rw [rfinsL]) (fun p ps => by rw [rfinsL])
theorem distsL_all : ∀ l, distsL l = l.all distL := all_map (by rw [distsL]) (fun p ps => by rw [distsL])
theorem node_shape {t : Lat} (h : nodeE t = 0) : shapeB t = true := by
  unfold nodeE at h
  split at h
  · cases h
  · rename_i h2; simpa using h2
theorem shape_k {t : Lat} (h : shapeB t = true) : 1 ≤ t.k ∧ t.k ≤ 10 := by
  unfold shapeB at h
  repeat' split at h
  all_goals first | omega | cases h
theorem shape_leaf {t : Lat} (h : shapeB t = true) (hk : t.k = 1 ∨ t.k = 2 ∨ t.k = 3 ∨ t.k = 4 ∨ t.k = 8 ∨ t.k = 9 ∨ t.k = 10) : t.ps = [] := by
  unfold shapeB at h
  repeat' split at h
  all_goals first
    | (have h := of_decide_eq_true h; simp only [h])
    | omega
/-- A node that is without an error is finite by the one rule if it is by the other. -/
theorem fin_eq : ∀ t, Okay t → finL t = rfinL t := by
  refine lat_ind ?_
  intro k lo hi ns ps rs ih h
  obtain ⟨h0, hp⟩ := h
  have hs := node_shape h0
  have hk := shape_k hs
  have hl := shape_leaf hs
  simp only [Lat.k, Lat.ps] at hk hl hp
  have he : finsL ps = rfinsL ps := by
    rw [finsL_all, rfinsL_all]
    have : ∀ l : List Lat, (∀ p ∈ l, p ∈ ps) → l.all finL = l.all rfinL := by
      intro l
      induction l with
      | nil => intro _; rfl
      | cons p l ihl =>
        intro h
        simp only [List.all_cons]
        rw [ihl fun q hq => h q (by simp [hq]), ih p (h p (by simp)) (hp p (h p (by simp)))]
    exact this ps fun _ h => h
  rw [finL, rfinL, he]
  rcases kinds k with rfl | rfl | rfl | rfl | rfl | rfl | rfl | rfl | rfl | rfl | hx
  case inr.inr.inr.inr.inr.inr.inr.inr.inr.inr => omega
  all_goals first
    | (have hl := hl (by omega); subst hl; cases ns <;> simp [rfinsL])
    | (cases ns <;> simp [rfinsL])
/-- A chain is distributive, if it is without an error. -/
theorem chain_dist : ∀ t, Okay t → chainL t = true → distL t = true := by
  refine lat_ind ?_
  intro k lo hi ns ps rs ih h hc
  obtain ⟨h0, hp⟩ := h
  have hs := node_shape h0
  have hl := shape_leaf hs
  simp only [Lat.k, Lat.ps] at hl hp
  rw [chainL] at hc
  rw [distL, distsL_all]
  by_cases h7 : k = 7
  · subst h7
    simp only [if_true, Bool.and_eq_true, chainsL_all, List.all_eq_true] at hc
    simp only [show ¬((7 : Int) = 8 ∨ (7 : Int) = 10) by omega, if_false, List.all_eq_true]
    exact fun p hq => ih p hq (hp p hq) (hc.2 p hq)
  · rw [if_neg h7] at hc
    have hc := of_decide_eq_true hc
    rw [if_neg (by omega), hl (by omega)]
    rfl
end Go.Proofs.Ytoogcafceghdjaa
