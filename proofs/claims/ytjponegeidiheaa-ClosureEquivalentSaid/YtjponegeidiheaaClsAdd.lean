/- addRule: a rule is added to a chase all of whose names are counted. Bounds on sizes alone. -/
import Derived.Test.YtjponegeidiheaaClsCg
namespace Go.Proofs.Ytjponegeidiheaa
open Go.RowKit

theorem rowsE : Elem Try.prog 81 56 (.slice none 0 0) 24 := ⟨Try.underlying81, by kernel_rfl, rfl⟩
theorem src_one {P : Program} {S E : TypeId} {z : Value} {eb : Nat} (T : Elem P S E z eb) {w : World} {g : Nat} {u : Value} (hc : w.cell? ⟨g, 0, none⟩ = some u) (hu : u.oneCell' = true) : Src P 1 S (.slice (some ⟨g, 0, none⟩) 1 1) 1 [u] w := by
  refine Src.ofSlice _ T.und ⟨g, 0, none⟩ 1 1 _ rfl (fun j v hv => ?_) (by intro v hv; rw [List.mem_singleton.1 hv]; exact hu)
  have : j = 0 := by have := (List.getElem?_eq_some_iff.1 hv).1; simp at this; omega
  subst this
  rw [Addr.add_mid, Nat.zero_add]
  simp only [List.getElem?_cons_zero, Option.some.injEq] at hv
  rw [← hv]; exact hc
/-- append of one cell onto a row of the call's own, inside a region that draws its order. -/
theorem step_own {P : Program} {S E : TypeId} {z : Value} {eb : Nat} (T : Elem P S E z eb) {ops : Array Oper} {o : Oper} {a : Act} {w : World} {K : Act → World → Prop} {Q : Exit → Act → World → Prop} {F : Prop} (hgd : o.guard = none) (s x : Operand)
    (ho : o.op = .call { callee := .builtin .append, args := #[s, x], argTypes := #[S, S] })
    (v : Value) (n : Nat) (xs : List Value) (hv : a.eval s = v) (hown : w.ownsRow 0 E 1 v n xs) (g : Nat) (u : Value) (hx : a.eval x = .slice (some ⟨g, 0, none⟩) 1 1) (hc : w.cell? ⟨g, 0, none⟩ = some u) (hu : u.oneCell' = true) (hl : (n + 1) * eb ≤ 140737488355328) (hl2 : n ≤ 140737488355328)
    (h : ∀ (ao : Option Addr) (cap m : Nat) (w' : World), m = n + 1 → w'.ownsRow 0 E 1 (.slice ao m cap) m (xs ++ [u]) → w.grownBy w' v.ownBlock → ((Value.slice ao m cap).ownBlock = v.ownBlock ∨ (Value.slice ao m cap).ownBlock = some w.heap.size) → K (a.put o.dst (.slice ao m cap)) w') :
    if Region.wanted o (yielded ops a.tmps) = true then Oper.wp P o a w K Q else F := by
  obtain ⟨i0, hi, hz0, hz1, hz2⟩ := info_parts T.info
  refine step_append_src _ hgd s x S S ho 0 E i0 z 1 eb T.und hi hz0 hz1 hz2 T.one (by decide) v n xs hv hown _ 1 [u] hx (src_one T hc hu) (by unfold maxLen; omega) (by omega) (Nat.zero_le _) ?_
  intro v2 w2 hown2 hg _ hf
  obtain ⟨ao, cap, rfl⟩ := own_shape hown2
  exact h ao cap _ w2 rfl hown2 hg hf
/-- The same, in a region that does not. -/
theorem wpList_own {P : Program} {S E : TypeId} {z : Value} {eb : Nat} (T : Elem P S E z eb) {ops : Array Oper} {rest : List Oper} {o : Oper} {a : Act} {w : World} {Q : Exit → Act → World → Prop} (hgd : o.guard = none) (s x : Operand)
    (ho : o.op = .call { callee := .builtin .append, args := #[s, x], argTypes := #[S, S] })
    (v : Value) (n : Nat) (xs : List Value) (hv : a.eval s = v) (hown : w.ownsRow 0 E 1 v n xs) (g : Nat) (u : Value) (hx : a.eval x = .slice (some ⟨g, 0, none⟩) 1 1) (hc : w.cell? ⟨g, 0, none⟩ = some u) (hu : u.oneCell' = true) (hl : (n + 1) * eb ≤ 140737488355328) (hl2 : n ≤ 140737488355328)
    (h : ∀ (ao : Option Addr) (cap m : Nat) (w' : World), m = n + 1 → w'.ownsRow 0 E 1 (.slice ao m cap) m (xs ++ [u]) → w.grownBy w' v.ownBlock → ((Value.slice ao m cap).ownBlock = v.ownBlock ∨ (Value.slice ao m cap).ownBlock = some w.heap.size) → wpList P ops Q rest (a.put o.dst (.slice ao m cap)) w') :
    wpList P ops Q (o :: rest) a w := by
  obtain ⟨i0, hi, hz0, hz1, hz2⟩ := info_parts T.info
  refine wpList_append_src _ hgd s x S S ho 0 E i0 z 1 eb T.und hi hz0 hz1 hz2 T.one (by decide) v n xs hv hown _ 1 [u] hx (src_one T hc hu) (by unfold maxLen; omega) (by omega) (Nat.zero_le _) ?_
  intro v2 w2 hown2 hg _ hf
  obtain ⟨ao, cap, rfl⟩ := own_shape hown2
  exact h ao cap _ w2 rfl hown2 hg hf

/-- The rows of numbers while the rule m with premises p is added. -/
def rlS (R : List Hrl) (lk : Nat → Nat) (T : List Nat) (m : Nat) (p x0 : List Nat) (j : Nat) (x1 : List Nat) (i : Nat) : List Nat :=
  if i = 0 then freeF R ++ x0 else if i = 1 then (List.range R.length).map lk ++ x1 else if i = 2 then T else usesF R (i - 3) ++ (if i - 3 ∈ p.take j then [m] else [])
theorem rlS_start (R : List Hrl) (lk : Nat → Nat) (T : List Nat) (m : Nat) (p : List Nat) (i : Nat) : rlF R lk T i = rlS R lk T m p [] 0 [] i := by
  unfold rlF rlS
  split <;> simp
theorem rlS_free (R : List Hrl) (lk : Nat → Nat) (T : List Nat) (m : Nat) (p : List Nat) (i : Nat) : upd (rlS R lk T m p [] 0 []) 0 (rlS R lk T m p [] 0 [] 0 ++ [m]) i = rlS R lk T m p [m] 0 [] i := by
  by_cases e : i = 0
  · subst e; rw [upd_self]; simp [rlS]
  · rw [upd_ne _ _ e]; simp [rlS, e]
theorem rlS_next {R : List Hrl} {lk : Nat → Nat} {T : List Nat} {m : Nat} {p x0 : List Nat} {j a : Nat} (hp : p.Nodup) (ha : p[j]? = some a) (i : Nat) : upd (rlS R lk T m p x0 j []) (3 + a) (rlS R lk T m p x0 j [] (3 + a) ++ [m]) i = rlS R lk T m p x0 (j + 1) [] i := by
  by_cases e : i = 3 + a
  · subst e
    rw [upd_self]
    have g : ∀ j, rlS R lk T m p x0 j [] (3 + a) = usesF R a ++ (if a ∈ p.take j then [m] else []) := fun j => by
      unfold rlS
      rw [if_neg (by omega), if_neg (by omega), if_neg (by omega), show 3 + a - 3 = a by omega]
    rw [g, g, if_neg (not_take hp ha), take_snoc_get ha]
    simp
  · rw [upd_ne _ _ e]
    unfold rlS
    rw [take_snoc_get ha]
    by_cases h0 : i = 0
    · simp [h0]
    by_cases h1 : i = 1
    · simp [h1]
    by_cases h2 : i = 2
    · simp [h2]
    · have : i - 3 ≠ a := by omega
      simp [h0, h1, h2, this]
theorem rlS_lack (R : List Hrl) (lk : Nat → Nat) (T : List Nat) (m : Nat) (p x0 : List Nat) (j y : Nat) (i : Nat) : upd (rlS R lk T m p x0 j []) 1 (rlS R lk T m p x0 j [] 1 ++ [y]) i = rlS R lk T m p x0 j [y] i := by
  by_cases e : i = 1
  · subst e; rw [upd_self]; simp [rlS]
  · rw [upd_ne _ _ e]; simp [rlS, e]
theorem prem_snoc (R : List Hrl) (r : Hrl) (i : Nat) : prem (R ++ [r]) i = if i < R.length then prem R i else if i = R.length then r.1 else [] := by
  unfold prem
  by_cases h : i < R.length
  · rw [if_pos h, List.getElem?_append_left h]
  · rw [if_neg h, List.getElem?_append_right (by omega)]
    by_cases e : i = R.length
    · subst e; simp
    · rw [if_neg e, List.getElem?_eq_none (by simp; omega)]; rfl
theorem conc_snoc (R : List Hrl) (r : Hrl) (i : Nat) : conc (R ++ [r]) i = if i < R.length then conc R i else if i = R.length then r.2 else [] := by
  unfold conc
  by_cases h : i < R.length
  · rw [if_pos h, List.getElem?_append_left h]
  · rw [if_neg h, List.getElem?_append_right (by omega)]
    by_cases e : i = R.length
    · subst e; simp
    · rw [if_neg e, List.getElem?_eq_none (by simp; omega)]; rfl
theorem freeF_snoc (R : List Hrl) (r : Hrl) : freeF (R ++ [r]) = freeF R ++ (if r.1 = [] then [R.length] else []) := by
  unfold freeF
  rw [List.length_append, List.length_singleton, List.range_succ, List.filter_append]
  congr 1
  · apply List.filter_congr
    intro i hi
    rw [prem_snoc, if_pos (by simpa using hi)]
  · rw [List.filter_cons, List.filter_nil, prem_snoc, if_neg (Nat.lt_irrefl _), if_pos rfl]
    by_cases h : r.1 = [] <;> simp [h]
theorem usesF_snoc (R : List Hrl) (r : Hrl) (a : Nat) : usesF (R ++ [r]) a = usesF R a ++ (if a ∈ r.1 then [R.length] else []) := by
  unfold usesF
  rw [List.length_append, List.length_singleton, List.range_succ, List.filter_append]
  congr 1
  · apply List.filter_congr
    intro i hi
    rw [prem_snoc, if_pos (by simpa using hi)]
  · rw [List.filter_cons, List.filter_nil, prem_snoc, if_neg (Nat.lt_irrefl _), if_pos rfl]
    by_cases h : a ∈ r.1 <;> simp [h]
theorem lackR_snoc {R : List Hrl} {r : Hrl} {off : Nat → Nat} {T : List Nat} {i : Nat} (hi : i < R.length) : lackR (R ++ [r]) off T i = lackR R off T i := by
  unfold lackR
  rw [prem_snoc, if_pos hi]
theorem rlS_end (R : List Hrl) (off : Nat → Nat) (T p q : List Nat) (ho : off R.length = 0) (i : Nat) : rlS R (lackR R off T) T R.length p (if p = [] then [R.length] else []) p.length [lackF p T] i = rlF (R ++ [(p, q)]) (lackR (R ++ [(p, q)]) off T) T i := by
  unfold rlS rlF
  rw [List.take_length]
  by_cases h0 : i = 0
  · simp [h0, freeF_snoc]
  by_cases h1 : i = 1
  · rw [if_neg h0, if_pos h1, if_neg h0, if_pos h1, List.length_append, List.length_singleton, List.range_succ, List.map_append]
    congr 1
    · exact List.map_congr_left fun x hx => (lackR_snoc (by simpa using hx)).symm
    · simp [lackR, prem_snoc, ho]
  by_cases h2 : i = 2
  · simp [h2]
  · simp [h0, h1, h2, usesF_snoc]
theorem lackF_snoc (p T : List Nat) (a : Nat) : lackF (p ++ [a]) T = lackF p T + if a ∈ T then 0 else 1 := by
  unfold lackF
  rw [List.countP_append]
  by_cases h : a ∈ T <;> simp [h]

/-- What holds while a rule is added, since world w0: j premises are done. -/
def AdI (zb : Nat) (w0 : World) (c n k gu gh : Nat) (R : List Hrl) (lk : Nat → Nat) (T : List Nat) (p x0 : List Nat) (j : Nat) (x1 : List Nat) (CC : List (List Nat)) (S : Nat → Prop) (wr : World) : Prop :=
  ∃ ro av ar S', CG wr c n k gu gh av ar CC (memB T) ro (rlS R lk T R.length p x0 j x1) S' ∧ Chg S S' w0 wr ∧ ar.length = CC.length ∧ ∀ v ∈ ar, ∀ g, v.ownBlock = some g → zb ≤ g
end Go.Proofs.Ytjponegeidiheaa
