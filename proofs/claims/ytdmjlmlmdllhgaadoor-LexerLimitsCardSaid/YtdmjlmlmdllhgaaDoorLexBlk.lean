/- Blanks and a comment in front of a token; blanks in front of a source: plain mathematics. No condition. -/
import Derived.Test.YtdmjlmlmdllhgaaDoorLexRdb
namespace Go.Proofs.YtdmjlmlmdllhgaaDoor

theorem skT_far {s : ByteArray} {q : Nat} (hq : q < s.size) (h10 : gt s q = 10) : ∀ d i, q - i = d → i ≤ q → (∀ j, i ≤ j → j < q → gt s j ≠ 10) → skT s i = sk s (q + 1) := by
  intro d
  induction d with
  | zero =>
    intro i hd hi _
    have e : i = q := by omega
    subst e
    rw [skT_nl h10, sk_blk hq (by rw [h10]; rfl)]
  | succ d ih =>
    intro i hd hi hall
    rw [skT_go (by omega) (hall i (Nat.le_refl _) (by omega))]
    exact ih (i + 1) (by omega) (by omega) (fun j h1 h2 => hall j (by omega) h2)
theorem sk_far {s : ByteArray} {q : Nat} (hq : q ≤ s.size) : ∀ d i, q - i = d → i ≤ q → (∀ j, i ≤ j → j < q → gt s j = 32) → sk s i = sk s q := by
  intro d
  induction d with
  | zero =>
    intro i hd hi _
    rw [show i = q by omega]
  | succ d ih =>
    intro i hd hi hall
    rw [sk_blk (by omega) (by rw [hall i (Nat.le_refl _) (by omega)]; rfl)]
    exact ih (i + 1) (by omega) (by omega) (fun j h1 h2 => hall j (by omega) h2)
theorem shf_of {s u : ByteArray} {p m : Nat} (hp : p ≤ s.size) (F : List UInt8) (hF : F.length = p + m) (hu : u.data.toList = F ++ s.data.toList.drop p) : Shf s u p m := by
  have hz : u.size = s.size + m := by
    rw [← sz_list u, hu, List.length_append, hF, List.length_drop, sz_list]; omega
  refine ⟨hz, fun j k hj => ?_⟩
  apply ba_ext
  rw [ex_list, ex_list, List.drop_take, List.drop_take, show k + m - (j + m) = k - j by omega]
  congr 1
  rw [show j + m = (p + m) + (j - p) by omega, ← List.drop_drop, hu, List.drop_left' hF, List.drop_drop, show p + (j - p) = j by omega]
theorem blk_facts {s C u : ByteArray} {p : Nat} (hp : p ≤ s.size) (hC : ∀ j, j < C.size → gt C j ≠ 10) (hu : u = s.extract 0 p ++ ⟨#[32, 9, 35]⟩ ++ C ++ ⟨#[13, 10]⟩ ++ s.extract p s.size) : Agr s u p ∧ Shf s u p (C.size + 5) ∧ sk u p = sk u (p + (C.size + 5)) ∧ skT u p = sk u (p + (C.size + 5)) := by
  have hcl := sz_list C
  have hsl := sz_list s
  have hul : u.data.toList = s.data.toList.take p ++ (32 :: 9 :: 35 :: (C.data.toList ++ (13 :: 10 :: s.data.toList.drop p))) := by
    have e1 : (s.extract p s.size).data.toList = s.data.toList.drop p := by
      rw [ex_list, List.take_of_length_le (by omega)]
    have e2 : (s.extract 0 p).data.toList = s.data.toList.take p := by rw [ex_list, List.drop_zero]
    rw [hu, app_list, app_list, app_list, app_list, e1, e2]
    simp
  have hpl : (s.data.toList.take p).length = p := by rw [List.length_take]; omega
  have hus : u.size = s.size + (C.size + 5) := by
    rw [← sz_list u, hul]
    simp only [List.length_append, hpl, List.length_cons, List.length_drop, hcl, hsl]
    omega
  have hr : ∀ i, u.data.toList[p + i]? = (32 :: 9 :: 35 :: (C.data.toList ++ (13 :: 10 :: s.data.toList.drop p)))[i]? := fun i => by
    rw [hul, List.getElem?_append_right (by omega), hpl, show p + i - p = i by omega]
  have g0 : gt u p = 32 := by rw [byte_at (j := p) (c := 32) (hr 0)]; rfl
  have g1 : gt u (p + 1) = 9 := by rw [byte_at (c := 9) (hr 1)]; rfl
  have g2 : gt u (p + 2) = 35 := by rw [byte_at (c := 35) (hr 2)]; rfl
  have gc : ∀ j, j < C.size → gt u (p + (3 + j)) ≠ 10 := fun j hj => by
    have hj2 : j < C.data.toList.length := by omega
    have e1 : C.data.toList[j]? = some C.data.toList[j] := List.getElem?_eq_getElem hj2
    have e2 := hr (3 + j)
    rw [show 3 + j = j + 1 + 1 + 1 by omega, List.getElem?_cons_succ, List.getElem?_cons_succ, List.getElem?_cons_succ, List.getElem?_append_left hj2, e1] at e2
    rw [show 3 + j = j + 1 + 1 + 1 by omega, byte_at e2, ← byte_at e1]
    exact hC j hj
  have g3 : gt u (p + (C.size + 3)) = 13 := by
    have e2 := hr (C.size + 3)
    rw [show C.size + 3 = C.size + 1 + 1 + 1 by omega, List.getElem?_cons_succ, List.getElem?_cons_succ, List.getElem?_cons_succ, List.getElem?_append_right (by omega), hcl, Nat.sub_self] at e2
    rw [show C.size + 3 = C.size + 1 + 1 + 1 by omega, byte_at (c := 13) e2]; rfl
  have g4 : gt u (p + (C.size + 4)) = 10 := by
    have e2 := hr (C.size + 4)
    rw [show C.size + 4 = C.size + 1 + 1 + 1 + 1 by omega, List.getElem?_cons_succ, List.getElem?_cons_succ, List.getElem?_cons_succ, List.getElem?_append_right (by omega), hcl, show C.size + 1 - C.size = 1 by omega] at e2
    rw [show C.size + 4 = C.size + 1 + 1 + 1 + 1 by omega, byte_at (c := 10) e2]; rfl
  have far : ∀ i, p ≤ i → i ≤ p + (C.size + 4) → skT u i = sk u (p + (C.size + 5)) := fun i h1 h2 => by
    refine skT_far (q := p + (C.size + 4)) (by omega) g4 _ i rfl h2 (fun j h3 h4 => ?_)
    by_cases j0 : j = p
    · rw [j0, g0]; decide
    by_cases j1 : j = p + 1
    · rw [j1, g1]; decide
    by_cases j2 : j = p + 2
    · rw [j2, g2]; decide
    by_cases j3 : j = p + (C.size + 3)
    · rw [j3, g3]; decide
    · have := gc (j - p - 3) (by omega)
      rwa [show p + (3 + (j - p - 3)) = j by omega] at this
  refine ⟨⟨hp, by omega, fun j k hk => ?_, .inr g0⟩, shf_of hp (s.data.toList.take p ++ (32 :: 9 :: 35 :: (C.data.toList ++ [13, 10]))) ?_ ?_, ?_, far p (Nat.le_refl _) (by omega)⟩
  · apply ba_ext
    rw [ex_list, ex_list, hul, List.take_append_of_le_length (by omega), List.take_take, show min k p = k by omega]
  · simp only [List.length_append, hpl, List.length_cons, hcl, List.length_nil]
  · rw [hul]; simp
  · rw [sk_blk (by omega) (by rw [g0]; rfl), sk_blk (by omega) (by rw [g1]; rfl), sk_hash0 g2]
    exact far (p + 3) (by omega) (by omega)
end Go.Proofs.YtdmjlmlmdllhgaaDoor
