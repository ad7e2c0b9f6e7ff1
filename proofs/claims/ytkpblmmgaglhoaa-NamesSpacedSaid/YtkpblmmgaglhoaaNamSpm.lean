/- Sources with blanks between the tokens: plain mathematics. No condition. -/
import Derived.Test.YtkpblmmgaglhoaaNamMth
namespace Go.Proofs.Ytkpblmmgaglhoaa

def bl (n : Nat) : Str := List.replicate n 32
abbrev Itm := Str × Nat × Nat
/-- The words from here on, each with the blanks before and behind it, and the end of the source. -/
def rnd : List Itm → Str → Str
  | [], tl => 125 :: tl
  | [(x, h, t)], tl => bl h ++ x ++ (bl t ++ 125 :: tl)
  | (x, h, t) :: y :: Q, tl => bl h ++ x ++ (bl t ++ 44 :: rnd (y :: Q) tl)
/-- What is read from place pos on. -/
def spR : Nat → List Str → List Itm → Got
  | _, acc, [] => ⟨setOf acc, 0, 0⟩
  | pos, acc, (x, h, t) :: Q => if x ∈ acc then bad (pos + h) 3 else spR (pos + h + x.length + t + 1) (acc ++ [x]) Q
theorem gl_bl (n : Nat) (r : Str) (k : Nat) (h : k < n) : gl (bl n ++ r) k = 32 := by
  rw [gl_left _ _ _ (by simpa [bl] using h)]
  unfold gl bl
  rw [List.getElem?_eq_getElem (by simpa using h)]
  simp
theorem bl_len (n : Nat) : (bl n).length = n := by simp [bl]
theorem gl_bln (n : Nat) (r : Str) : gl (bl n ++ r) n = gl r 0 := by
  have := gl_app0 (bl n) r
  rwa [bl_len] at this
theorem sk_mid {p r : Str} {n : Nat} (h : gl r 0 ≠ 32) : sk (ba (p ++ (bl n ++ r))) p.length = p.length + n := by
  refine run_eq n p.length (fun k hk hk2 => ?_) ?_
  · obtain ⟨i, rfl⟩ : ∃ i, k = p.length + i := ⟨k - p.length, by omega⟩
    rw [gt_ba, gl_app, gl_bl _ _ _ (by omega)]
    refine ⟨rfl, ?_⟩
    rw [ba_len]; simp [bl]; omega
  · rw [gt_ba, gl_app, gl_bln]
    simp [blank, h]
theorem gl_nil : gl [] 0 = -1 := rfl
theorem gt_mid {p r : Str} {n : Nat} : gt (ba (p ++ (bl n ++ r))) (p.length + n) = gl r 0 := by
  rw [gt_ba, gl_app, gl_bln]
theorem rnd_head {x : Str} {h t : Nat} {Q : List Itm} {tl : Str} : ∃ r, rnd ((x, h, t) :: Q) tl = bl h ++ (x ++ r) := by
  cases Q with
  | nil => exact ⟨bl t ++ 125 :: tl, by rw [rnd]; simp⟩
  | cons y Q => exact ⟨bl t ++ 44 :: rnd (y :: Q) tl, by rw [rnd]; simp⟩
theorem inw_tail {t : Nat} {r : Str} (h : inw (gl r 0) = false) : inw (gl (bl t ++ r) 0) = false := by
  cases t with
  | zero => simpa [bl] using h
  | succ t => rw [gl_bl _ _ _ (by omega)]; rfl
/-- One word, and what stands behind it. -/
theorem word_mid {pre x R : Str} {h t : Nat} (hx : nameOk x = true) (hR : inw (gl R 0) = false) (hR2 : gl R 0 ≠ 32) :
    sk (ba (pre ++ (bl h ++ x ++ (bl t ++ R)))) pre.length = pre.length + h ∧
    we (ba (pre ++ (bl h ++ x ++ (bl t ++ R)))) (pre.length + h) = pre.length + h + x.length ∧
    (ba (pre ++ (bl h ++ x ++ (bl t ++ R)))).extract (pre.length + h) (pre.length + h + x.length) = ba x ∧
    sk (ba (pre ++ (bl h ++ x ++ (bl t ++ R)))) (pre.length + h + x.length) = pre.length + h + x.length + t ∧
    gt (ba (pre ++ (bl h ++ x ++ (bl t ++ R)))) (pre.length + h + x.length + t) = gl R 0 := by
  obtain ⟨h1, h2, h3⟩ := name_chars hx
  have e1 : pre ++ (bl h ++ x ++ (bl t ++ R)) = pre ++ (bl h ++ (x ++ (bl t ++ R))) := by simp
  have e2 : pre ++ (bl h ++ x ++ (bl t ++ R)) = (pre ++ bl h) ++ x ++ (bl t ++ R) := by simp
  have e3 : pre ++ (bl h ++ x ++ (bl t ++ R)) = (pre ++ bl h ++ x) ++ (bl t ++ R) := by simp
  have l1 : pre.length + h = (pre ++ bl h).length := by simp [bl]
  have l2 : pre.length + h + x.length = (pre ++ bl h ++ x).length := by simp [bl]; omega
  refine ⟨?_, ?_, ?_, ?_, ?_⟩
  · rw [e1]; exact sk_mid (by rw [gl_left _ _ _ h1]; exact (isl_ne h3).1)
  · rw [e2, l1]; exact we_mid hx (inw_tail hR)
  · rw [e2, l1]; exact extract_mid _ _ _
  · rw [e3, l2]; exact sk_mid hR2
  · rw [e3, l2]; exact gt_mid
theorem sk_tail (p : Str) (g : Nat) : sk (ba (p ++ bl g)) p.length = p.length + g := by
  have := sk_mid (p := p) (r := []) (n := g) (by rw [gl_nil]; decide)
  rwa [List.append_nil] at this
theorem words_sp (g : Nat) : ∀ (Q : List Itm) (x : Str) (h t : Nat) (pre : Str) (acc : List Str) (d : Nat), (∀ i ∈ (x, h, t) :: Q, nameOk i.1 = true) → (ba (pre ++ rnd ((x, h, t) :: Q) (bl g))).size - pre.length < d →
    wordsF (ba (pre ++ rnd ((x, h, t) :: Q) (bl g))) d (sk (ba (pre ++ rnd ((x, h, t) :: Q) (bl g))) pre.length) acc = spR pre.length acc ((x, h, t) :: Q) := by
  intro Q; induction Q with
  | nil =>
    intro x h t pre acc d hok hd
    obtain ⟨d', rfl⟩ : ∃ d', d = d' + 1 := ⟨d - 1, by omega⟩
    have hx := hok _ (List.mem_cons_self ..)
    obtain ⟨h1, _, _⟩ := name_chars hx
    rw [rnd]
    obtain ⟨w1, w2, w3, w4, w5⟩ := word_mid (pre := pre) (h := h) (t := t) (R := 125 :: bl g) hx rfl (show (125 : Int) ≠ 32 by decide)
    have hc : cut (ba (pre ++ (bl h ++ x ++ (bl t ++ 125 :: bl g)))) (pre.length + h) (pre.length + h + x.length) = x := by unfold cut; rw [w3]; exact ba_list x
    rw [w1, spR]
    by_cases hin : x ∈ acc
    · rw [if_pos hin, wf_name w2 (by omega) (.inr (by rw [hc]; exact hin))]
    · rw [if_neg hin, wf_close w2 (by omega) (by rw [w3]; exact hx) (by rw [hc]; exact hin) w4 w5, hc, spR]
      have e : pre ++ (bl h ++ x ++ (bl t ++ 125 :: bl g)) = (pre ++ bl h ++ x ++ bl t ++ [125]) ++ bl g := by simp
      have l : pre.length + h + x.length + t + 1 = (pre ++ bl h ++ x ++ bl t ++ [125]).length := by simp [bl]; omega
      rw [e, l]
      refine fin_ok (sk_tail _ g).symm ?_
      rw [ba_len]; simp [bl]; omega
  | cons y Q ih =>
    intro x h t pre acc d hok hd
    obtain ⟨d', rfl⟩ : ∃ d', d = d' + 1 := ⟨d - 1, by omega⟩
    obtain ⟨y1, y2, y3⟩ := y
    have hx := hok _ (List.mem_cons_self ..)
    obtain ⟨h1, _, _⟩ := name_chars hx
    have er : rnd ((x, h, t) :: (y1, y2, y3) :: Q) (bl g) = bl h ++ x ++ (bl t ++ 44 :: rnd ((y1, y2, y3) :: Q) (bl g)) := by rw [rnd]
    rw [er] at hd ⊢
    obtain ⟨w1, w2, w3, w4, w5⟩ := word_mid (pre := pre) (h := h) (t := t) (R := 44 :: rnd ((y1, y2, y3) :: Q) (bl g)) hx rfl (show (44 : Int) ≠ 32 by decide)
    have hc : cut (ba (pre ++ (bl h ++ x ++ (bl t ++ 44 :: rnd ((y1, y2, y3) :: Q) (bl g))))) (pre.length + h) (pre.length + h + x.length) = x := by unfold cut; rw [w3]; exact ba_list x
    rw [w1, spR]
    by_cases hin : x ∈ acc
    · rw [if_pos hin, wf_name w2 (by omega) (.inr (by rw [hc]; exact hin))]
    · rw [if_neg hin, wf_comma w2 (by omega) (by rw [w3]; exact hx) (by rw [hc]; exact hin) w4 w5, hc]
      have e : pre ++ (bl h ++ x ++ (bl t ++ 44 :: rnd ((y1, y2, y3) :: Q) (bl g))) = (pre ++ bl h ++ x ++ bl t ++ [44]) ++ rnd ((y1, y2, y3) :: Q) (bl g) := by simp
      have l : pre.length + h + x.length + t + 1 = (pre ++ bl h ++ x ++ bl t ++ [44]).length := by simp [bl]; omega
      rw [e] at hd ⊢
      rw [l]
      refine ih y1 y2 y3 _ _ d' (fun i hi => hok i (List.mem_cons_of_mem _ hi)) ?_
      rw [ba_len] at hd ⊢
      simp only [List.length_append, List.length_cons, List.length_nil, bl_len] at hd ⊢
      omega
theorem parse_sp (g0 g1 g : Nat) (items : List Itm) (hok : ∀ i ∈ items, nameOk i.1 = true) :
    parseF (ba (bl g0 ++ 123 :: bl g1 ++ rnd items (bl g))) = spR (bl g0 ++ 123 :: bl g1).length [] items := by
  have hz : sk (ba (bl g0 ++ 123 :: bl g1 ++ rnd items (bl g))) 0 = g0 := by
    have := sk_mid (p := []) (n := g0) (r := 123 :: (bl g1 ++ rnd items (bl g))) (show (123 : Int) ≠ 32 by decide)
    simpa using this
  have hg : gt (ba (bl g0 ++ 123 :: bl g1 ++ rnd items (bl g))) g0 = 123 := by
    have := gt_mid (p := []) (n := g0) (r := 123 :: (bl g1 ++ rnd items (bl g)))
    simp only [List.nil_append, List.length_nil, Nat.zero_add] at this
    rw [show bl g0 ++ 123 :: bl g1 ++ rnd items (bl g) = bl g0 ++ 123 :: (bl g1 ++ rnd items (bl g)) by simp, this]; rfl
  have e0 : bl g0 ++ 123 :: bl g1 ++ rnd items (bl g) = (bl g0 ++ [123]) ++ (bl g1 ++ rnd items (bl g)) := by simp
  have l0 : g0 + 1 = (bl g0 ++ [123]).length := by simp [bl]
  rw [parseF, hz, hg, if_neg (by decide)]
  cases items with
  | nil =>
    have hs : sk (ba (bl g0 ++ 123 :: bl g1 ++ rnd [] (bl g))) (g0 + 1) = g0 + 1 + g1 := by
      rw [e0, l0]; exact sk_mid (show (125 : Int) ≠ 32 by decide)
    have hg2 : gt (ba (bl g0 ++ 123 :: bl g1 ++ rnd [] (bl g))) (g0 + 1 + g1) = 125 := by
      rw [e0, l0, gt_mid]; rfl
    rw [hs, hg2, if_pos rfl, spR]
    have e : bl g0 ++ 123 :: bl g1 ++ rnd [] (bl g) = (bl g0 ++ 123 :: bl g1 ++ [125]) ++ bl g := by rw [rnd]; simp
    have l : g0 + 1 + g1 + 1 = (bl g0 ++ 123 :: bl g1 ++ [125]).length := by simp [bl]; omega
    rw [e, l]
    refine fin_ok (sk_tail _ g).symm ?_
    rw [ba_len]; simp [bl]; omega
  | cons y Q =>
    obtain ⟨x, h, t⟩ := y
    have hx := hok _ (List.mem_cons_self ..)
    obtain ⟨h1, _, h3⟩ := name_chars hx
    obtain ⟨r, hr⟩ := rnd_head (x := x) (h := h) (t := t) (Q := Q) (tl := bl g)
    have e1 : bl g0 ++ 123 :: bl g1 ++ rnd ((x, h, t) :: Q) (bl g) = (bl g0 ++ [123]) ++ (bl (g1 + h) ++ (x ++ r)) := by
      rw [hr]; simp [bl, ← List.replicate_append_replicate]
    have hs : sk (ba (bl g0 ++ 123 :: bl g1 ++ rnd ((x, h, t) :: Q) (bl g))) (g0 + 1) = g0 + 1 + (g1 + h) := by
      rw [e1, l0]; exact sk_mid (by rw [gl_left _ _ _ h1]; exact (isl_ne h3).1)
    have hg2 : gt (ba (bl g0 ++ 123 :: bl g1 ++ rnd ((x, h, t) :: Q) (bl g))) (g0 + 1 + (g1 + h)) ≠ 125 := by
      rw [e1, l0, gt_mid, gl_left _ _ _ h1]; exact (isl_ne h3).2
    have hs2 : sk (ba (bl g0 ++ 123 :: bl g1 ++ rnd ((x, h, t) :: Q) (bl g))) (bl g0 ++ 123 :: bl g1).length = g0 + 1 + (g1 + h) := by
      rw [hr, sk_mid (by rw [gl_left _ _ _ h1]; exact (isl_ne h3).1)]
      simp [bl]; omega
    rw [hs, if_neg hg2, ← hs2]
    exact words_sp g Q x h t _ [] _ hok (by omega)
end Go.Proofs.Ytkpblmmgaglhoaa
