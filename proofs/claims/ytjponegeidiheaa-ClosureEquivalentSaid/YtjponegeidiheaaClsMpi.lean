/- A map whose keys are pairs of strings, as a set of keys; joined names. Bounds on sizes alone. -/
import Derived.Maps.OwnOps
import Derived.Maps.Views
import Derived.StringKeys
import Derived.DeepKeys5
import Derived.Lib.Join
import Derived.Test.YtjponegeidiheaaNmStr
import Derived.Test.YtjponegeidiheaaNmVal
namespace Go.Proofs.Ytjponegeidiheaa
open Go.RowKit Go.Maps
set_option maxRecDepth 100000

theorem keyedI : Keyed Try.prog 106 := Keyed.of_law (deep_law (m := 3) (by decide) (by kernel_rfl) (by kernel_rfl) (by kernel_rfl))
theorem zeroBI (w : World) : (zeroValue 4).run Try.prog w = .ok (.bool false) w := by kernel_rfl
abbrev Ky := Str × Str
def Ky.v (p : Ky) : Value := .agg #[.string (ba p.1), .string (ba p.2)]
def Ky.ok (p : Ky) : Prop := p.1.length ≤ 1000000 ∧ p.2.length ≤ 1000000
def kL (p : Ky) : List UInt8 := keyBytes [.string p.1, .string p.2]
theorem size_two : ∃ n, Try.prog.types.size + 1 = n + 2 := ⟨Try.prog.types.size - 1, by
  have h : Nat.ble 1 Try.prog.types.size = true := by kernel_rfl
  have := Nat.le_of_ble_eq_true h
  omega⟩
theorem key_has {p : Ky} (h : p.ok) : keyOf Try.prog 106 p.v = some (.string (kL p)) := by
  have h1 : Try.prog.keyType 106 = true := by kernel_rfl
  have h3 : Try.prog.cellsOf 106 = 2 := by kernel_rfl
  have h4 : Try.prog.cellsOf 9 = 1 := by kernel_rfl
  have h2 : p.v.formed Try.prog 106 = true := by
    unfold Ky.v
    simp [Value.formed, Try.underlying106, h3]
  obtain ⟨n, hn⟩ := size_two
  obtain ⟨a1, a2⟩ := h
  have s1 : (ba p.1).size ≤ maxLen := by show p.1.toArray.size ≤ maxLen; unfold maxLen; simp; omega
  have s2 : (ba p.2).size ≤ maxLen := by show p.2.toArray.size ≤ maxLen; unfold maxLen; simp; omega
  unfold keyOf
  rw [Try.underlying106]
  simp only [h1, h2, Bool.and_self, if_true]
  rw [hn]
  unfold Ky.v kL
  simp [Program.keyLits, Try.underlying106, Try.underlying9, h3, h4, s1, s2, Value.cells]
  rfl
theorem ba_inj {x y : Str} (h : ba x = ba y) : x = y := congrArg (fun b : ByteArray => b.data.toList) h
theorem kL_inj {p q : Ky} (hp : p.ok) (hq : q.ok) (h : kL p = kL q) : p = q := by
  have e := keyedI.inj (key_has hp) (by rw [h]; exact key_has hq)
  unfold Ky.v at e
  simp only [Value.agg.injEq, Array.mk.injEq, List.cons.injEq, Value.string.injEq, and_true] at e
  exact Prod.ext (ba_inj e.1) (ba_inj e.2)
/-- Block b is a map in which the keys of a list are true, and no others. -/
def MapI (w : World) (b n : Nat) (keys : List Ky) : Prop :=
  (∀ q ∈ keys, q.ok) ∧ ∃ D : DataW Unit, w.ownsMap Try.prog 106 (plainElem Try.prog 4) b n D ∧ IsMap D ∧ ∀ x : Ky, x.ok → D.atKey (.string (kL x)) (.lit (.bool false)) = .lit (.bool (decide (x ∈ keys)))
theorem mapI_made (w : World) : MapI (w.alloc (.map #[] 0)) w.heap.size 0 [] :=
  ⟨fun q h => (by cases h), .map [], World.ownsMap_made w _ _ _, isMap_empty, fun x _ => by simp [DataW.atKey]⟩
theorem MapI.same {w w' : World} {b n : Nat} {keys : List Ky} (h : MapI w b n keys) (hb : w'.heap[b]? = w.heap[b]?) : MapI w' b n keys := by
  obtain ⟨h0, D, ⟨es, clock, h1, h2, h3, h4⟩, h5, h6⟩ := h
  exact ⟨h0, D, ⟨es, clock, hb.trans h1, h2, h3, h4⟩, h5, h6⟩
theorem MapI.lt {w : World} {b n : Nat} {keys : List Ky} (h : MapI w b n keys) : b < w.heap.size := by
  obtain ⟨_, D, h1, _⟩ := h; exact h1.lt
theorem plainElem_bool_invI {v : Value} {q : Bool} {ps : List MemPlace} (h : plainElem (H := Unit) Try.prog 4 v = some (.lit (.bool q), ps)) : v = .bool q := by
  unfold plainElem at h
  rw [Try.underlying4] at h
  split at h
  · rename_i x _ ; simp only [Option.some.injEq, Prod.mk.injEq, DataW.lit.injEq, Lit.bool.injEq] at h; rw [h.1]
  · rename_i e; cases e
  · rename_i e; cases e
  · cases h
theorem MapI.look {w : World} {b n : Nat} {keys : List Ky} (h : MapI w b n keys) (x : Ky) (hx : x.ok) :
    (Instr.lookup 104 (.map (some b)) x.v false).run Try.prog w = .ok (.bool (decide (x ∈ keys))) w := by
  obtain ⟨_, D, h1, h2, h3⟩ := h
  obtain ⟨v, ps, hrun, hv⟩ := h1.lookup keyedI Try.underlying104 (zeroBI w) (plainElem_bool Try.underlying4 false) (key_has hx)
  rw [h3 x hx] at hv
  rw [hrun, plainElem_bool_invI hv]
theorem mapI_put {w' : World} {b n : Nat} {keys : List Ky} {x : Ky} {D : DataW Unit} (h1 : w'.ownsMap Try.prog 106 (plainElem Try.prog 4) b (n + 1) (D.put (.string (kL x)) (.lit (.bool true))))
    (h0 : ∀ q ∈ keys, q.ok) (hx : x.ok) (h2 : IsMap D) (h3 : ∀ x : Ky, x.ok → D.atKey (.string (kL x)) (.lit (.bool false)) = .lit (.bool (decide (x ∈ keys)))) : MapI w' b (n + 1) (keys ++ [x]) := by
  refine ⟨fun q hq => ?_, _, h1, h2.put _ _, fun y hy => ?_⟩
  · rw [List.mem_append, List.mem_singleton] at hq
    rcases hq with hq | rfl
    · exact h0 q hq
    · exact hx
  by_cases e : y = x
  · subst e
    have hk : WideAt.IsKeyLit (.string (kL y)) := trivial
    rw [atKey_put_same h2 hk]
    simp
  · rw [atKey_put_other (by intro e2; simp only [Lit.string.injEq] at e2; exact e (kL_inj hy hx (by first | exact e2 | exact e2.symm))), h3 y hy]
    congr 3
    rw [List.mem_append, List.mem_singleton]
    simp [e]
/-- The store at the operation. -/
theorem wpList_putI {ops : Array Oper} {rest : List Oper} {o : Oper} {a : Act} {w : World} {Q : Exit → Act → World → Prop} (hg : o.guard = none) (m x v : Operand)
    (hop : o.op = Op.mapUpdate 104 m x v) (b n : Nat) (keys : List Ky) (y : Ky) (hm : a.eval m = .map (some b)) (hx : a.eval x = y.v) (hv : a.eval v = .bool true) (h : MapI w b n keys) (hn : n ≤ 1000000) (hy : y.ok)
    (hK : ∀ w', MapI w' b (n + 1) (keys ++ [y]) → w.grownBy w' (some b) → wpList Try.prog ops Q rest (a.put o.dst undef) w') : wpList Try.prog ops Q (o :: rest) a w := by
  obtain ⟨h0, D, h1, h2, h3⟩ := h
  refine wpList_mapUpdate_own w hg m x v 104 hop 106 4 keyedI Try.underlying104 _ b n D hm h1 (by unfold maxLen; omega) y.v (.bool true) (.string (kL y)) hx hv
    (key_has hy) (.lit (.bool true)) [] (plainElem_bool Try.underlying4 true) (fun w' hown hgrow => hK w' (mapI_put hown h0 hy h2 h3) hgrow)

/-! Names joined by commas. -/
def jn (l : List Str) : Str := Lib.join l [44]
theorem joinTail_cons (x : Str) (r : List Str) : Lib.joinTail [44] (x :: r) = 44 :: x ++ Lib.joinTail [44] r := by simp [Lib.joinTail]
theorem jn_cons (x : Str) (r : List Str) : jn (x :: r) = x ++ Lib.joinTail [44] r := Lib.join_cons x r [44]
theorem jt_len {m : Nat} : ∀ l : List Str, (∀ x ∈ l, x.length ≤ m) → (Lib.joinTail [44] l).length ≤ (m + 1) * l.length := by
  intro l; induction l with
  | nil => intro _; simp [Lib.joinTail]
  | cons x l ih =>
    intro h
    have h1 := ih (fun y hy => h y (by simp [hy]))
    have h2 := h x (by simp)
    rw [joinTail_cons, List.length_append, List.length_cons, List.length_cons, Nat.mul_add, Nat.mul_one]
    omega
theorem jn_len {m : Nat} (l : List Str) (h : ∀ x ∈ l, x.length ≤ m) : (jn l).length ≤ (m + 1) * l.length := by
  cases l with
  | nil => simp [jn, Lib.join_nil]
  | cons x r =>
    have h1 := jt_len r (fun y hy => h y (by simp [hy]))
    have h2 := h x (by simp)
    rw [jn_cons, List.length_append, List.length_cons, Nat.mul_add, Nat.mul_one]
    omega
/-- No comma in it, and not empty. -/
def Wd (x : Str) : Prop := (44 : UInt8) ∉ x ∧ x ≠ []
theorem jt_shape (l : List Str) : Lib.joinTail [44] l = [] ∧ l = [] ∨ ∃ x r, l = x :: r ∧ Lib.joinTail [44] l = 44 :: (x ++ Lib.joinTail [44] r) := by
  cases l with
  | nil => left; simp [Lib.joinTail]
  | cons x r => right; exact ⟨x, r, rfl, by rw [joinTail_cons]; rfl⟩
/-- A word in front of a rest that is empty or begins with a comma is found again. -/
theorem word_split : ∀ {x y s t : Str}, (44 : UInt8) ∉ x → (44 : UInt8) ∉ y → (s = [] ∨ ∃ s', s = 44 :: s') → (t = [] ∨ ∃ t', t = 44 :: t') → x ++ s = y ++ t → x = y ∧ s = t
  | [], [], s, t, _, _, _, _, h => ⟨rfl, by simpa using h⟩
  | [], b :: y, s, t, _, hy, hs, _, h => by
    rcases hs with rfl | ⟨s', rfl⟩
    · simp at h
    · simp only [List.nil_append, List.cons_append, List.cons.injEq] at h
      exact absurd (by rw [← h.1]; simp) hy
  | a :: x, [], s, t, hx, _, _, ht, h => by
    rcases ht with rfl | ⟨t', rfl⟩
    · simp at h
    · simp only [List.nil_append, List.cons_append, List.cons.injEq] at h
      exact absurd (by rw [h.1]; simp) hx
  | a :: x, b :: y, s, t, hx, hy, hs, ht, h => by
    simp only [List.cons_append, List.cons.injEq] at h
    obtain ⟨e1, e2⟩ := word_split (fun hm => hx (List.mem_cons_of_mem _ hm)) (fun hm => hy (List.mem_cons_of_mem _ hm)) hs ht h.2
    exact ⟨by rw [h.1, e1], e2⟩
theorem jt_head (l : List Str) : Lib.joinTail [44] l = [] ∨ ∃ s, Lib.joinTail [44] l = 44 :: s := by
  rcases jt_shape l with h | ⟨x, r, _, h⟩
  · exact .inl h.1
  · exact .inr ⟨_, h⟩
theorem jt_inj : ∀ {a b : List Str}, (∀ x ∈ a, Wd x) → (∀ x ∈ b, Wd x) → Lib.joinTail [44] a = Lib.joinTail [44] b → a = b
  | [], [], _, _, _ => rfl
  | [], y :: b, _, _, h => by rw [joinTail_cons] at h; simp [Lib.joinTail] at h
  | x :: a, [], _, _, h => by rw [joinTail_cons] at h; simp [Lib.joinTail] at h
  | x :: a, y :: b, ha, hb, h => by
    rw [joinTail_cons, joinTail_cons, List.cons_append, List.cons_append, List.cons.injEq] at h
    obtain ⟨e1, e2⟩ := word_split (ha x (by simp)).1 (hb y (by simp)).1 (jt_head a) (jt_head b) h.2
    rw [e1, jt_inj (fun z hz => ha z (List.mem_cons_of_mem _ hz)) (fun z hz => hb z (List.mem_cons_of_mem _ hz)) e2]
theorem jn_inj {a b : List Str} (ha : ∀ x ∈ a, Wd x) (hb : ∀ x ∈ b, Wd x) (h : jn a = jn b) : a = b := by
  have hne : ∀ (x : Str) (r : List Str), Wd x → jn (x :: r) ≠ jn [] := fun x r hx e => by
    rw [jn_cons] at e
    have : x ++ Lib.joinTail [44] r = [] := by rw [e]; simp [jn, Lib.join_nil]
    exact hx.2 (List.append_eq_nil_iff.1 this).1
  cases a with
  | nil =>
    cases b with
    | nil => rfl
    | cons y b => exact absurd h.symm (hne y b (hb y (by simp)))
  | cons x a =>
    cases b with
    | nil => exact absurd h (hne x a (ha x (by simp)))
    | cons y b =>
      rw [jn_cons, jn_cons] at h
      obtain ⟨e1, e2⟩ := word_split (ha x (by simp)).1 (hb y (by simp)).1 (jt_head a) (jt_head b) h
      rw [e1, jt_inj (fun z hz => ha z (List.mem_cons_of_mem _ hz)) (fun z hz => hb z (List.mem_cons_of_mem _ hz)) e2]
theorem wd_of_name {x : Str} (h : isName (strBytes (ba x)) = true) : Wd x ∧ x.length ≤ 16 := by
  obtain ⟨h1, h2, _, h4⟩ := (isName_iff _).1 h
  rw [strBytes_length] at h1 h2
  refine ⟨⟨fun hm => ?_, fun e => ?_⟩, h2⟩
  · obtain ⟨j, hj⟩ := List.getElem?_of_mem hm
    obtain ⟨hl, hv⟩ := List.getElem?_eq_some_iff.1 hj
    have := h4 j 44 (by
      rw [strBytes_at (ba x) j hl]
      show some _ = some _
      congr 1
      show ((x.toArray[j]'(by simpa using hl)).toNat : Int) = 44
      simp [hv])
    simp [inw, isl] at this
  · rw [e] at h1
    exact absurd h1 (by decide)
end Go.Proofs.Ytjponegeidiheaa
