/- turn, and the signs of numbers, choices, sizes and sums. No condition. -/
import Derived.Test.YtdacalplnggnoaaDoorVarFlp
namespace Go.Proofs.YtdacalplnggnoaaDoor
open Go.RowKit

theorem bel_alloc2 (w : World) (o o2 : Obj) : Below w.heap.size w ((w.alloc o).alloc o2) := (bel_alloc w o).trans ((bel_alloc _ o2).mono (by simp))
theorem ne_f {a b : Int} (h : a ≠ b) : (a == b) = false := beq_eq_false_iff_ne.2 h
/-- The call returns the integer r; below its world nothing has changed. -/
def IntP (k : IntKind) (r : Int) (w : World) (e : Ending) (w' : World) : Prop := e = .returned (.int k r) ∧ Below w.heap.size w w'
/-- The cells of a block. -/
theorem cs12 {w : World} {b : Nat} {E : TypeId} {m : Nat × Nat} {v0 v1 v2 v3 v4 v5 v6 v7 v8 v9 v10 v11 : Value} (h : w.heap[b]? = some (.cells #[v0, v1, v2, v3, v4, v5, v6, v7, v8, v9, v10, v11] E m)) : w.cell? ⟨b, 0, none⟩ = some v0 ∧ w.cell? ⟨b, 1, none⟩ = some v1 ∧ w.cell? ⟨b, 2, none⟩ = some v2 ∧ w.cell? ⟨b, 3, none⟩ = some v3 ∧ w.cell? ⟨b, 4, none⟩ = some v4 ∧ w.cell? ⟨b, 5, none⟩ = some v5 ∧ w.cell? ⟨b, 6, none⟩ = some v6 ∧ w.cell? ⟨b, 7, none⟩ = some v7 ∧ w.cell? ⟨b, 8, none⟩ = some v8 ∧ w.cell? ⟨b, 9, none⟩ = some v9 ∧ w.cell? ⟨b, 10, none⟩ = some v10 ∧ w.cell? ⟨b, 11, none⟩ = some v11 := by
  have q : ∀ j u, #[v0, v1, v2, v3, v4, v5, v6, v7, v8, v9, v10, v11].toList[j]? = some u → w.cell? ⟨b, j, none⟩ = some u := fun j u hu => by
    have := World.news_of_block h j u hu
    rw [Addr.add_mid, Nat.zero_add] at this
    exact this
  exact ⟨q _ _ rfl, q _ _ rfl, q _ _ rfl, q _ _ rfl, q _ _ rfl, q _ _ rfl, q _ _ rfl, q _ _ rfl, q _ _ rfl, q _ _ rfl, q _ _ rfl, q _ _ rfl⟩
theorem row_at {w w' : World} {o : Obj} (h : Below (w.alloc o).heap.size (w.alloc o) w') : w'.heap[w.heap.size]? = some o := by
  rw [h.block _ (by simp)]; exact heap_alloc_new w o
theorem row_at1 {w w' : World} {o o2 : Obj} (h : Below ((w.alloc o).alloc o2).heap.size ((w.alloc o).alloc o2) w') : w'.heap[w.heap.size]? = some o := row_at ((bel_alloc _ _).trans (h.mono (by simp)))
theorem row_at2 {w w' : World} {o o2 : Obj} (h : Below ((w.alloc o).alloc o2).heap.size ((w.alloc o).alloc o2) w') : w'.heap[w.heap.size + 1]? = some o2 := by
  have := row_at h
  rwa [show (w.alloc o).heap.size = w.heap.size + 1 by simp] at this
def BooP (b : Bool) (w : World) (e : Ending) (w' : World) : Prop := e = .returned (.bool b) ∧ Below w.heap.size w w'

set_option maxRecDepth 100000 in
theorem turn_any (s v : Int) (w : World) : Calls Tryd.prog 24 #[.int .u8 s, .int .i64 v] w fun e w' => e = .returned (.int .i64 (turnF s v)) ∧ w = w' := by
  obtain ⟨r, hr⟩ : ∃ r, r = turnF s v := ⟨_, rfl⟩
  rw [← hr]
  unfold turnF at hr
  by_cases h1 : s = 45
  · rw [if_pos h1] at hr
    subst h1
    have F1 := hid_of (flip_any v w)
    rw [← hr] at F1
    clear hr
    go_enter Tryd.func24, Tryd.ntmps24
    go_wp2_with (go_at_call 8; ((with_reducible refine (F1.out).mono ?_); (rintro e w2 ⟨rfl, rfl⟩)))
    go_ret
    exact ⟨rfl, rfl⟩
  rw [if_neg h1] at hr
  have e1 := ne_f h1
  clear h1
  by_cases h2 : s = 61
  · rw [if_pos h2] at hr
    subst h2
    by_cases h3 : v = 0
    · rw [if_pos h3] at hr
      subst h3
      subst hr
      go_enter Tryd.func24, Tryd.ntmps24
      go_wp2
      go_ret
      exact ⟨rfl, rfl⟩
    · rw [if_neg h3] at hr
      have e3 := ne_f h3
      have e4 : (v != 0) = true := bne_iff_ne.2 h3
      clear h3
      subst hr
      go_enter Tryd.func24, Tryd.ntmps24
      go_wp2
      go_ret
      exact ⟨rfl, rfl⟩
  · rw [if_neg h2] at hr
    have e2 := ne_f h2
    clear h2
    subst hr
    go_enter Tryd.func24, Tryd.ntmps24
    go_wp2
    go_ret
    exact ⟨rfl, rfl⟩
set_option maxRecDepth 100000 in
theorem num_any (k : Int) (w : World) : Calls Tryd.prog 28 #[.int .i64 k] w fun e w' => e = .returned (.int .u8 (numS k)) ∧ w = w' := by
  obtain ⟨r, hr⟩ : ∃ r, r = numS k := ⟨_, rfl⟩
  rw [← hr]
  unfold numS at hr
  by_cases h1 : k = 2
  · rw [if_pos h1] at hr
    subst h1 hr
    go_enter Tryd.func28, Tryd.ntmps28
    go_wp2
    go_ret
    exact ⟨rfl, rfl⟩
  rw [if_neg h1] at hr
  have e1 := ne_f h1
  clear h1
  by_cases h2 : k = 3
  · rw [if_pos h2] at hr
    subst h2 hr
    go_enter Tryd.func28, Tryd.ntmps28
    go_wp2
    go_ret
    exact ⟨rfl, rfl⟩
  rw [if_neg h2] at hr
  have e2 := ne_f h2
  clear h2
  subst hr
  go_enter Tryd.func28, Tryd.ntmps28
  go_wp2
  go_ret
  exact ⟨rfl, rfl⟩
def accB (v : Int) : Bool := v == 0 || v == 1
set_option maxRecDepth 100000 in
theorem acc_any (v : Int) (w : World) : Calls Tryd.prog 19 #[.int .i64 v] w fun e w' => e = .returned (.bool (accB v)) ∧ w = w' := by
  by_cases h1 : v = 0
  · subst h1
    go_enter Tryd.func19, Tryd.ntmps19
    go_wp2
    go_ret
    exact ⟨rfl, rfl⟩
  have e1 := ne_f h1
  have HR : Hid (accB v = (v == 1)) := hid_of (by unfold accB; rw [e1, Bool.false_or])
  clear h1
  go_enter Tryd.func19, Tryd.ntmps19
  go_wp2
  go_ret
  exact ⟨by rw [HR.out] <;> rfl, rfl⟩
set_option maxRecDepth 100000 in
theorem plus_any (b : Bool) (w : World) : Calls Tryd.prog 26 #[.bool b] w fun e w' => e = .returned (.int .u8 (plusIf b)) ∧ w = w' := by
  cases b
  · go_enter Tryd.func26, Tryd.ntmps26
    go_wp2
    go_ret
    exact ⟨rfl, rfl⟩
  · go_enter Tryd.func26, Tryd.ntmps26
    go_wp2
    go_ret
    exact ⟨rfl, rfl⟩
set_option maxRecDepth 100000 in
set_option maxHeartbeats 1600000 in
theorem below_any (ao an : Int) (a1 a2 a3 a4 a5 a6 a7 a9 a10 a11 : Value) (bo bn : Int) (b1 b2 b3 b4 b5 b6 b7 b9 b10 b11 : Value) (w : World) : Calls Tryd.prog 31 #[.agg #[.int .i64 ao, a1, a2, a3, a4, a5, a6, a7, .int .i64 an, a9, a10, a11], .agg #[.int .i64 bo, b1, b2, b3, b4, b5, b6, b7, .int .i64 bn, b9, b10, b11]] w (BooP (bel ao an bo bn) w) := by
  obtain ⟨r, hr⟩ : ∃ r, r = bel ao an bo bn := ⟨_, rfl⟩
  rw [← hr]
  unfold bel at hr
  by_cases h1 : ao = 6
  · rw [if_pos h1] at hr
    subst h1 hr
    go_enter Tryd.func31, Tryd.ntmps31
    go_wp2
    go_ret
    exact ⟨rfl, bel_alloc2 _ _ _⟩
  rw [if_neg h1] at hr
  have e1 := ne_f h1
  clear h1
  by_cases h2 : ao = 1 ∨ ao = 2
  · rw [if_pos h2] at hr
    have e5 : (ao == 1 || ao == 2) = true := by simpa using h2
    by_cases h3 : ao = bo
    · have hb : r = decide (an ≤ bn) := by rw [hr]; simp [h3]
      have e3 : (ao == bo) = true := by simpa using h3
      subst hb
      clear hr h3
      rcases h2 with rfl | rfl
      · go_enter Tryd.func31, Tryd.ntmps31
        go_wp2
        go_ret
        exact ⟨rfl, bel_alloc2 _ _ _⟩
      · go_enter Tryd.func31, Tryd.ntmps31
        go_wp2
        go_ret
        exact ⟨rfl, bel_alloc2 _ _ _⟩
    · have hb : r = false := by rw [hr]; simp [h3]
      have e3 := ne_f h3
      subst hb
      clear hr h3
      rcases h2 with rfl | rfl
      · go_enter Tryd.func31, Tryd.ntmps31
        go_wp2
        go_ret
        exact ⟨rfl, bel_alloc2 _ _ _⟩
      · go_enter Tryd.func31, Tryd.ntmps31
        go_wp2
        go_ret
        exact ⟨rfl, bel_alloc2 _ _ _⟩
  · rw [if_neg h2] at hr
    have e2 : (ao == 1) = false := ne_f fun h => h2 (.inl h)
    have e3 : (ao == 2) = false := ne_f fun h => h2 (.inr h)
    clear h2
    subst hr
    go_enter Tryd.func31, Tryd.ntmps31
    go_wp2
    go_ret
    exact ⟨rfl, bel_alloc2 _ _ _⟩
theorem bel_a2 {w w1 w2 : World} (h1 : Below w.heap.size w w1) (h2 : Below w1.heap.size w1 w2) : Below w.heap.size w w2 := h1.trans (h2.mono h1.size)
set_option maxRecDepth 100000 in
set_option maxHeartbeats 1600000 in
theorem choice_any (ao an : Int) (a1 a2 a3 a4 a5 a6 a7 a9 a10 a11 : Value) (bo bn : Int) (b1 b2 b3 b4 b5 b6 b7 b9 b10 b11 : Value) (w : World) : Calls Tryd.prog 27 #[.agg #[.int .i64 ao, a1, a2, a3, a4, a5, a6, a7, .int .i64 an, a9, a10, a11], .agg #[.int .i64 bo, b1, b2, b3, b4, b5, b6, b7, .int .i64 bn, b9, b10, b11]] w (IntP .u8 (if bel bo bn ao an then 43 else if bel ao an bo bn then 45 else 61) w) := by
  have C1 := hid_of (fun wz => below_any bo bn b1 b2 b3 b4 b5 b6 b7 b9 b10 b11 ao an a1 a2 a3 a4 a5 a6 a7 a9 a10 a11 wz)
  have C2 := hid_of (fun wz => below_any ao an a1 a2 a3 a4 a5 a6 a7 a9 a10 a11 bo bn b1 b2 b3 b4 b5 b6 b7 b9 b10 b11 wz)
  obtain ⟨p, hp⟩ : ∃ p, p = bel bo bn ao an := ⟨_, rfl⟩
  obtain ⟨q, hq⟩ : ∃ q, q = bel ao an bo bn := ⟨_, rfl⟩
  rw [← hp] at C1 ⊢
  rw [← hq] at C2 ⊢
  clear hp hq
  cases p
  · cases q
    · go_enter Tryd.func27, Tryd.ntmps27
      go_wp2_with (first
        | (go_at_call 31; ((with_reducible refine (C1.out _).mono ?_); (rintro e w2 ⟨rfl, h2⟩)); (have H1 := hid_of h2); (obtain ⟨p0, p1, p2, p3, p4, p5, p6, p7, p8, p9, p10, p11⟩ := cs12 (row_at1 h2)); (obtain ⟨q0, q1, q2, q3, q4, q5, q6, q7, q8, q9, q10, q11⟩ := cs12 (row_at2 h2)); clear h2)
        | (go_at_call 31; ((with_reducible refine (C2.out _).mono ?_); (rintro e w3 ⟨rfl, h2⟩)); (have H2 := hid_of h2); clear h2))
      go_ret
      exact ⟨rfl, bel_a2 (bel_a2 (bel_alloc2 _ _ _) H1.out) H2.out⟩
    · go_enter Tryd.func27, Tryd.ntmps27
      go_wp2_with (first
        | (go_at_call 31; ((with_reducible refine (C1.out _).mono ?_); (rintro e w2 ⟨rfl, h2⟩)); (have H1 := hid_of h2); (obtain ⟨p0, p1, p2, p3, p4, p5, p6, p7, p8, p9, p10, p11⟩ := cs12 (row_at1 h2)); (obtain ⟨q0, q1, q2, q3, q4, q5, q6, q7, q8, q9, q10, q11⟩ := cs12 (row_at2 h2)); clear h2)
        | (go_at_call 31; ((with_reducible refine (C2.out _).mono ?_); (rintro e w3 ⟨rfl, h2⟩)); (have H2 := hid_of h2); clear h2))
      go_ret
      exact ⟨rfl, bel_a2 (bel_a2 (bel_alloc2 _ _ _) H1.out) H2.out⟩
  · go_enter Tryd.func27, Tryd.ntmps27
    go_wp2_with (go_at_call 31; ((with_reducible refine (C1.out _).mono ?_); (rintro e w2 ⟨rfl, h2⟩)); (have H1 := hid_of h2); clear h2)
    go_ret
    exact ⟨by cases q <;> rfl, bel_a2 (bel_alloc2 _ _ _) H1.out⟩
end Go.Proofs.YtdacalplnggnoaaDoor
