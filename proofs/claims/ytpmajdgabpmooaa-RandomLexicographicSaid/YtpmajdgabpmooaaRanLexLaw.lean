/- The law of the lexicographic order of ranks. No condition. -/
import Derived.Test.YtpmajdgabpmooaaRanLess
namespace Go.Proofs.Ytpmajdgabpmooaa
open Go.RowKit

/-- What the law asks of two lists, case by case. -/
theorem five (n m x y : Nat) (e f : Int) (B : Bool) (he : e = 0 ∨ e = 1) (hf : f = 0 ∨ f = 1) (hB : n = m → e = 0 → f = 0 → (B = decide (x < y))) :
    (n ≠ m) ∨ (n = m ∧ e = 1) ∨ (n = m ∧ e = 0 ∧ f = 1) ∨ (n = m ∧ e = 0 ∧ f = 0 ∧ x < y ∧ B = true) ∨ (n = m ∧ e = 0 ∧ f = 0 ∧ ¬ x < y ∧ B = false) := by
  by_cases h : n = m
  · rcases he with he | he
    · rcases hf with hf | hf
      · have := hB h he hf
        by_cases hx : x < y
        · exact .inr (.inr (.inr (.inl ⟨h, he, hf, hx, by rw [this]; simp [hx]⟩)))
        · exact .inr (.inr (.inr (.inr ⟨h, he, hf, hx, by rw [this]; simp [hx]⟩)))
      · exact .inr (.inr (.inl ⟨h, he, hf⟩))
    · exact .inr (.inl ⟨h, he⟩)
  · exact .inl h
theorem less_dec {l m : List Int} {x y : Nat} (h : x < y ↔ lessI l m) : lessB l m = decide (x < y) := by
  by_cases hx : x < y
  · rw [lessB_yes (h.1 hx)]; simp [hx]
  · rw [lessB_no (fun hh => hx (h.2 hh))]; simp [hx]

theorem lex_big (a0 : Int) (a1 a2 a3 a4 : Option Addr) (n1 n2 n3 n4 c1 c2 c3 c4 : Nat) (w : World) (h : 40 < n1 ∨ 40 < n2 ∨ 100 < n3 ∨ 100 < n4) :
    Calls Try.prog 11 #[.int .i64 a0, .slice a1 n1 c1, .slice a2 n2 c2, .slice a3 n3 c3, .slice a4 n4 c4] w fun e w' => e = .returned (.bool true) ∧ Below w.heap.size w w' := by
  by_cases h1 : 40 < n1
  · have d1 : decide ((40 : Int) < (n1 : Int)) = true := by simp; omega
    clear h h1
    go_enter Try.func11, Try.ntmps11
    go_wp2_with (go_at_call 16; ((with_reducible refine (awake_any w).mono ?_); (rintro e w1 ⟨rfl, h1⟩; have B1 := hid_of h1; clear h1)))
    go_ret
    exact ⟨rfl, B1.out⟩
  · have d1 : decide ((40 : Int) < (n1 : Int)) = false := by simp; omega
    by_cases h2 : 40 < n2
    · have d2 : decide ((40 : Int) < (n2 : Int)) = true := by simp; omega
      clear h h1 h2
      go_enter Try.func11, Try.ntmps11
      go_wp2_with (go_at_call 16; ((with_reducible refine (awake_any w).mono ?_); (rintro e w1 ⟨rfl, h1⟩; have B1 := hid_of h1; clear h1)))
      go_ret
      exact ⟨rfl, B1.out⟩
    · have d2 : decide ((40 : Int) < (n2 : Int)) = false := by simp; omega
      by_cases h3 : 100 < n3
      · have d3 : decide ((100 : Int) < (n3 : Int)) = true := by simp; omega
        clear h h1 h2 h3
        go_enter Try.func11, Try.ntmps11
        go_wp2_with (go_at_call 16; ((with_reducible refine (awake_any w).mono ?_); (rintro e w1 ⟨rfl, h1⟩; have B1 := hid_of h1; clear h1)))
        go_ret
        exact ⟨rfl, B1.out⟩
      · have d3 : decide ((100 : Int) < (n3 : Int)) = false := by simp; omega
        have d4 : decide ((100 : Int) < (n4 : Int)) = true := by simp; omega
        clear h h1 h2 h3
        go_enter Try.func11, Try.ntmps11
        go_wp2_with (go_at_call 16; ((with_reducible refine (awake_any w).mono ?_); (rintro e w1 ⟨rfl, h1⟩; have B1 := hid_of h1; clear h1)))
        go_ret
        exact ⟨rfl, B1.out⟩

set_option maxRecDepth 100000 in
set_option maxHeartbeats 16000000 in
theorem lex_law (a0 : Int) (a1 : Option Addr) (len1 cap1 : Nat) (a2 : Option Addr) (len2 cap2 : Nat) (a3 : Option Addr) (len3 cap3 : Nat) (a4 : Option Addr) (len4 cap4 : Nat) (z1 z2 z3 z4 : List Int) (w : World)
    (w1 : IsRow .i64 w a1 len1 cap1 z1) (w2 : IsRow .i64 w a2 len2 cap2 z2) (w3 : IsRow .i64 w a3 len3 cap3 z3) (w4 : IsRow .i64 w a4 len4 cap4 z4) :
    Calls Try.prog 11 #[.int .i64 a0, .slice a1 len1 cap1, .slice a2 len2 cap2, .slice a3 len3 cap3, .slice a4 len4 cap4] w fun e w' => e = .returned (.bool true) ∧ Below w.heap.size w w' := by
  by_cases hbig : 40 < len1 ∨ 40 < len2 ∨ 100 < len3 ∨ 100 < len4
  · exact lex_big a0 a1 a2 a3 a4 len1 len2 len3 len4 cap1 cap2 cap3 cap4 w hbig
  have d1 : decide ((40 : Int) < (len1 : Int)) = false := by simp; omega
  have d2 : decide ((40 : Int) < (len2 : Int)) = false := by simp; omega
  have d3 : decide ((100 : Int) < (len3 : Int)) = false := by simp; omega
  have d4 : decide ((100 : Int) < (len4 : Int)) = false := by simp; omega
  obtain ⟨l1, e1, k1, r1⟩ := w1.rd
  obtain ⟨l2, e2, k2, r2⟩ := w2.rd
  obtain ⟨l3, e3, k3, r3⟩ := w3.rd
  obtain ⟨l4, e4, k4, r4⟩ := w4.rd
  clear w1 w2 w3 w4 hbig k1 k2 k3 k4
  obtain ⟨x, ep, hep, hx, cp⟩ := rankP_gen l1 len1 e1.symm
  obtain ⟨y, eq, heq, hy, cq⟩ := rankP_gen l2 len2 e2.symm
  obtain ⟨u, es, hes, hu, cs⟩ := rankS_gen a0 l3 len3 e3.symm
  obtain ⟨v, et, het, hv, ct⟩ := rankS_gen a0 l4 len4 e4.symm
  have f1 := five len1 len2 x y ep eq (lessB l1 l2) hep heq (fun h1 h2 h3 => by
    subst h1
    obtain ⟨p1, p2, p3⟩ := hx h2
    obtain ⟨q1, q2, q3⟩ := hy h3
    subst p3 q3
    exact less_dec (perm_order e1.symm e2.symm p2 p1 q1))
  have f2 := five len3 len4 u v es et (lessB l3 l4) hes het (fun h1 h2 h3 => by
    subst h1
    obtain ⟨k, p1, p2, p3, p4⟩ := hu h2
    obtain ⟨k2, q1, q2, q3, q4⟩ := hv h3
    obtain rfl : k = k2 := by omega
    subst p4 q4
    rw [p1] at p3 q3
    exact less_dec (sub_order e3.symm e4.symm p2 p3 q3))
  have R1 := hid_of (show Rd w (.slice a1 len1 cap1) (is l1) from r1)
  have R2 := hid_of (show Rd w (.slice a2 len2 cap2) (is l2) from r2)
  have R3 := hid_of (show Rd w (.slice a3 len3 cap3) (is l3) from r3)
  have R4 := hid_of (show Rd w (.slice a4 len4 cap4) (is l4) from r4)
  have CP := hid_of cp
  have CQ := hid_of cq
  have CS := hid_of cs
  have CT := hid_of ct
  have HW : Hid (w.heap.size ≤ w.heap.size) := hid_of (Nat.le_refl _)
  have HL1 : Hid (len1 = len2 → ∀ w', Below w.heap.size w w' → Calls Try.prog 33 #[.slice a1 len1 cap1, .slice a2 len2 cap2] w' fun e w'' => e = .returned (.bool (lessB l1 l2)) ∧ Below w'.heap.size w' w'') := hid_of (fun h w' hb => by subst h; exact less_any a1 a2 len1 cap1 cap2 l1 l2 w' (R1.out.at hb) (R2.out.at hb))
  have HL2 : Hid (len3 = len4 → ∀ w', Below w.heap.size w w' → Calls Try.prog 33 #[.slice a3 len3 cap3, .slice a4 len4 cap4] w' fun e w'' => e = .returned (.bool (lessB l3 l4)) ∧ Below w'.heap.size w' w'') := hid_of (fun h w' hb => by subst h; exact less_any a3 a4 len3 cap3 cap4 l3 l4 w' (R3.out.at hb) (R4.out.at hb))
  clear hep heq hes het hx hy hu hv cp cq cs ct e1 e2 e3 e4 r1 r2 r3 r4
  rcases f1 with f1 | ⟨rfl, rfl⟩ | ⟨rfl, rfl, rfl⟩ | ⟨rfl, rfl, rfl, g1, b1⟩ | ⟨rfl, rfl, rfl, g1, b1⟩ <;>
    rcases f2 with f2 | ⟨rfl, rfl⟩ | ⟨rfl, rfl, rfl⟩ | ⟨rfl, rfl, rfl, g2, b2⟩ | ⟨rfl, rfl, rfl, g2, b2⟩
  all_goals
    (try (have n1 : (len1 == len2) = false := (by simpa using f1); have n1b : ((len1 : Int) == (len2 : Int)) = false := (by simp; omega); clear f1))
    (try (have n2 : (len3 != len4) = true := (by simpa using f2); have n2b : ((len3 : Int) != (len4 : Int)) = true := (by simp; omega); clear f2))
    (try (have n3 : (len3 != len3) = false := (by simp)))
    (try (rw [b1] at HL1; clear b1))
    (try (rw [b2] at HL2; clear b2))
    (first | (have g1d : decide (x < y) = true := (by simpa using g1); clear g1) | (have g1d : decide (x < y) = false := (by simpa using g1); clear g1) | skip)
    (first | (have g2d : decide (u < v) = true := (by simpa using g2); clear g2) | (have g2d : decide (u < v) = false := (by simpa using g2); clear g2) | skip)
    go_enter Try.func11, Try.ntmps11
    go_wp2_with (first
      | (go_at_call 29; (first
        | ((with_reducible refine (CP.out a1 cap1 w R1.out).mono ?_); (rintro e w1 ⟨rfl, h1⟩; have B1 := hid_of h1; clear h1))
        | ((with_reducible refine (CQ.out a2 cap2 w1 (R2.out.at B1.out)).mono ?_); (rintro e w2 ⟨rfl, h2⟩; have B2 := hid_of (step_b B1.out h2 HW.out); clear h2))))
      | (go_at_call 33; (first
        | ((with_reducible refine (HL1.out (by trivial) w2 B2.out).mono ?_); (rintro e w3 ⟨rfl, h3⟩; have B3 := hid_of (step_b B2.out h3 HW.out); clear h3))
        | ((with_reducible refine (HL2.out (by trivial) w4 B4.out).mono ?_); (rintro e w5 ⟨rfl, h5⟩; have B5 := hid_of (step_b B4.out h5 HW.out); clear h5))))
      | (go_at_call 34; (first
        | ((with_reducible refine (CS.out a3 cap3 w3 (R3.out.at B3.out)).mono ?_); (rintro e w' ⟨rfl, rfl⟩))
        | ((with_reducible refine (CT.out a4 cap4 w3 (R4.out.at B3.out)).mono ?_); (rintro e w' ⟨rfl, rfl⟩))
        | ((with_reducible refine (CS.out a3 cap3 w2 (R3.out.at B2.out)).mono ?_); (rintro e w' ⟨rfl, rfl⟩))
        | ((with_reducible refine (CT.out a4 cap4 w2 (R4.out.at B2.out)).mono ?_); (rintro e w' ⟨rfl, rfl⟩))))
      | (go_at_call 16; (first
        | ((with_reducible refine (awake_any w3).mono ?_); (rintro e w4 ⟨rfl, h4⟩; have B4 := hid_of (step_b B3.out h4 HW.out); clear h4))
        | ((with_reducible refine (awake_any w2).mono ?_); (rintro e w4 ⟨rfl, h4⟩; have B4 := hid_of (step_b B2.out h4 HW.out); clear h4)))))
    go_ret
    first | exact ⟨rfl, B5.out⟩ | exact ⟨rfl, B4.out⟩
end Go.Proofs.Ytpmajdgabpmooaa
