/- The reference: the token at a place. Bounds on sizes alone. -/
import Derived.Test.YtdmjlmlmdllhgaaDoorLexRit
namespace Go.Proofs.YtdmjlmlmdllhgaaDoor
open Go.RowKit

theorem sr_size : ∀ i : Fin 17, (SR[i.val]'(by exact i.isLt)).size = if i.val < 3 then 2 else 1 := by decide
theorem sr_sz {i : Nat} {x : ByteArray} (h : SR[i]? = some x) : i < 17 ∧ x.size = if i < 3 then 2 else 1 := by
  obtain ⟨h1, h2⟩ := List.getElem?_eq_some_iff.1 h
  have h3 : i < 17 := h1
  refine ⟨h3, ?_⟩
  rw [← h2]
  exact sr_size ⟨i, h3⟩
theorem sr_len : SR.length = 17 := rfl
/-- None of the first i signs stands at place j. -/
def SgF (s : ByteArray) (j i : Nat) : Prop := ∀ (m : Nat) (x : ByteArray), m < i → SR[m]? = some x → ¬ (x.size ≤ s.size - j ∧ s.extract j (j + x.size) = x)
theorem sgn_mem {x : ByteArray} (h : sgn x = true) : ∃ m : Nat, SR[m]? = some x := by
  rw [← sgn_eq, among_iff] at h
  exact List.getElem?_of_mem h
theorem mem_sgn {x : ByteArray} {m : Nat} (h : SR[m]? = some x) : sgn x = true := by
  rw [← sgn_eq, among_iff]; exact List.mem_of_getElem? h
theorem ext_size {s : ByteArray} {j n : Nat} (h : n ≤ s.size - j) (hj : j < s.size) : (s.extract j (j + n)).size = n := by rw [ByteArray.size_extract]; omega
theorem SgF.two {s : ByteArray} {j i : Nat} (h : SgF s j i) (hi : 3 ≤ i) (hj : j < s.size) : ¬ (2 ≤ s.size - j ∧ sgn (s.extract j (j + 2)) = true) := by
  rintro ⟨h1, h2⟩
  obtain ⟨m, hm⟩ := sgn_mem h2
  have hz := sr_sz hm
  have h3 := ext_size h1 hj
  have hm3 : m < 3 := by
    by_cases e : m < 3
    · exact e
    · rw [if_neg e] at hz; omega
  exact h m _ (by omega) hm ⟨by omega, by rw [h3]⟩
theorem SgF.hit {s : ByteArray} {j i : Nat} {x : ByteArray} (h : SgF s j i) (hj : j < s.size) (hx : SR[i]? = some x) (h1 : x.size ≤ s.size - j) (h2 : s.extract j (j + x.size) = x) : sigF s j = ⟨5, x, 0, j + x.size, 0⟩ := by
  have hz := (sr_sz hx).2
  by_cases e : i < 3
  · rw [if_pos e] at hz
    rw [hz] at h1 h2 ⊢
    rw [sigF, if_pos ⟨h1, by rw [h2]; exact mem_sgn hx⟩, h2]
  · rw [if_neg e] at hz
    rw [hz] at h1 h2 ⊢
    rw [sigF, if_neg (h.two (by omega) hj), if_pos (by rw [h2]; exact mem_sgn hx), h2]
theorem SgF.none {s : ByteArray} {j i : Nat} (h : SgF s j i) (hi : i = 17) (hj : j < s.size) : sigF s j = bad 2 := by
  subst hi
  rw [sigF, if_neg (h.two (by omega) hj), if_neg]
  intro h2
  obtain ⟨m, hm⟩ := sgn_mem h2
  have h3 := ext_size (s := s) (j := j) (n := 1) (by omega) hj
  exact h m _ (sr_sz hm).1 hm ⟨by omega, by rw [h3]⟩
theorem SgF.miss {s : ByteArray} {j i : Nat} {x : ByteArray} (h : SgF s j i) (hx : SR[i]? = some x) (h1 : ¬ (x.size ≤ s.size - j ∧ s.extract j (j + x.size) = x)) : SgF s j (i + 1) := by
  intro m y hm hy
  by_cases e : m = i
  · subst e; rw [hx] at hy; cases hy; exact h1
  · exact h m y (by omega) hy
theorem bel_self (w : World) : Below w.heap.size w w := Below.refl _ _
set_option maxRecDepth 100000 in
set_option maxHeartbeats 3200000 in
theorem qtoken_any (s : ByteArray) (j : Nat) (w : World) (hs : s.size ≤ 1000000) (hj : j < s.size) :
    Calls Tryd.prog 35 #[.string s, .int .i64 j] w (NexP (tokF s j) j w) := by
  have ZA : Hid (((w.alloc (.cells #[.int .i64 0, .string ⟨#[]⟩, .int .i64 0, .int .i64 0] 25)).alloc (.cells #[.int .i64 0, .int .i64 0] 28)).heap[w.heap.size]? = some (.cells #[.int .i64 0, .string ⟨#[]⟩, .int .i64 0, .int .i64 0] 25 (0, 0))) := hid_of (two_a _ _ _)
  have ZB : Hid (((w.alloc (.cells #[.int .i64 0, .string ⟨#[]⟩, .int .i64 0, .int .i64 0] 25)).alloc (.cells #[.int .i64 0, .int .i64 0] 28)).heap[w.heap.size + 1]? = some (.cells #[.int .i64 0, .int .i64 0] 28 (0, 0))) := hid_of (two_b _ _ _)
  have ZL : Hid (w.heap.size + 1 < ((w.alloc (.cells #[.int .i64 0, .string ⟨#[]⟩, .int .i64 0, .int .i64 0] 25)).alloc (.cells #[.int .i64 0, .int .i64 0] 28)).heap.size) := hid_of (by simp)
  have ZW : Hid (Below w.heap.size w ((w.alloc (.cells #[.int .i64 0, .string ⟨#[]⟩, .int .i64 0, .int .i64 0] 25)).alloc (.cells #[.int .i64 0, .int .i64 0] 28))) := hid_of (bel_two _ _ _)
  have ZN : Hid (∀ w1, Below ((w.alloc (.cells #[.int .i64 0, .string ⟨#[]⟩, .int .i64 0, .int .i64 0] 25)).alloc (.cells #[.int .i64 0, .int .i64 0] 28)).heap.size ((w.alloc (.cells #[.int .i64 0, .string ⟨#[]⟩, .int .i64 0, .int .i64 0] 25)).alloc (.cells #[.int .i64 0, .int .i64 0] 28)) w1 → w1.heap[w.heap.size]? = some (.cells #[.int .i64 0, .string ⟨#[]⟩, .int .i64 0, .int .i64 0] 25 (0, 0)) ∧ w1.heap[w.heap.size + 1]? = some (.cells #[.int .i64 0, .int .i64 0] 28 (0, 0)) ∧ Below w.heap.size w w1) := hid_of (fun w1 h => ⟨(h.block _ (Nat.lt_of_succ_lt ZL.out)).trans ZA.out, (h.block _ ZL.out).trans ZB.out, ZW.out.trans (h.mono ZW.out.size)⟩)
  have HI1 := hid_of infoTok
  have HI2 := hid_of infoFlt
  obtain ⟨g, hg⟩ : ∃ g, g = tokF s j := ⟨_, rfl⟩
  rw [← hg]
  obtain ⟨y, hy⟩ : ∃ y : Int, y = ((s[j]).toNat : Int) := ⟨_, rfl⟩
  have hys : ((s[j]).toNat : Int) = y := hy.symm
  have HY : Hid (gt s j = y) := hid_of (by rw [gt_lt hj, hy])
  have HG : Hid (g = if isl y = true then wordF s j else if dig y = true then intF s j else if y = 39 then quoF s j else sigF s j) := hid_of (by rw [hg, tokF, gt_lt hj, hy])
  have HS := hid_of hs
  have HJ := hid_of hj
  have hj0 : (0 : Int) ≤ (j : Int) := by omega
  have hjs : (j : Int) < (s.size : Int) := by omega
  have hss : (s.size : Int) ≤ 1000000 := by omega
  obtain ⟨q1, h1⟩ : ∃ q, q = isl y := ⟨_, rfl⟩
  obtain ⟨q2, h2⟩ : ∃ q, q = dig y := ⟨_, rfl⟩
  have L1 : Hid (∀ w1, Calls Tryd.prog 45 #[.int .u8 y] w1 fun e w2 => e = .returned (.bool q1) ∧ w1 = w2) := hid_of (fun w1 => by rw [h1]; exact (qletter_any y w1).mono fun _ _ h => ⟨h.1, h.2.symm⟩)
  have L2 : Hid (∀ w1, Calls Tryd.prog 47 #[.int .u8 y] w1 fun e w2 => e = .returned (.bool q2) ∧ w1 = w2) := hid_of (fun w1 => by rw [h2]; exact (qdigit_any y w1).mono fun _ _ h => ⟨h.1, h.2.symm⟩)
  have D2 := hid_of h2
  rw [← h1, ← h2] at HG
  clear hs hg hy h1 h2
  cases q1
  rotate_left
  · have HG1 : Hid (g = wordF s j) := hid_of (by rw [HG.out]; simp)
    obtain ⟨k, hk⟩ : ∃ k, k = we s j := ⟨_, rfl⟩
    have WD : Hid (∀ w1, Calls Tryd.prog 46 #[.string s, .int .i64 j] w1 (NumP k w1)) := hid_of (fun w1 => by rw [hk]; exact qword_any s j w1 HS.out (Nat.le_of_lt HJ.out))
    have hjk : j ≤ k := by rw [hk]; exact run_ge _ _ _
    have hks : k ≤ s.size := by rw [hk]; exact run_le (Nat.le_of_lt HJ.out)
    have i1 : (j : Int) ≤ (k : Int) := by omega
    have i2 : (k : Int) ≤ (s.size : Int) := by omega
    obtain ⟨t, ht⟩ : ∃ t, t = s.extract j k := ⟨_, rfl⟩
    have HT := hid_of ht
    have HG2 : Hid (g = if 16 < k - j then bad 3 else if kw t = true then ⟨2, t, 0, k, 0⟩ else ⟨1, t, 0, k, 0⟩) := hid_of (by rw [HG1.out, wordF, ← hk, ht])
    clear ht hk HG HG1
    by_cases h16 : 16 < k - j
    · have GE : Hid (g = bad 3) := hid_of (by rw [HG2.out, if_pos h16])
      have d6 : (16 : Int) < (k : Int) - (j : Int) := by omega
      clear h16 hjk hks HG2
      go_enter Tryd.func35, Tryd.ntmps35
      go_wp2_with (first
        | (go_at_call 45; ((with_reducible refine (L1.out _).mono ?_); (rintro e w' ⟨rfl, rfl⟩)))
        | (go_at_call 46; ((with_reducible refine (WD.out _).mono ?_); (rintro e w' ⟨rfl, rfl⟩)))
        | (go_at_call 33; ((with_reducible refine (qfault_any _ _ _).mono ?_); (rintro e w1 ⟨rfl, h1⟩; have B1 := hid_of (h1); clear h1; obtain ⟨ra, rb, rc⟩ := ZN.out _ B1.out; have WA := hid_of ra; have WB := hid_of rb; have LB := hid_of rc; obtain ⟨c0, c1, c2, c3, f0, f1, f2, f3⟩ := row4 ra; obtain ⟨e0, e1, g0, g1⟩ := row2 rb; clear ra rb rc))))
      rw [set4 WA.out, set2 ((setRow_other _ _ _ _ (by omega)).trans WB.out)]
      obtain ⟨q1, q2, q3⟩ := nex_end (a := #[.int .i64 0, .string ⟨#[]⟩, .int .i64 0, .int .i64 0]) (b := #[.int .i64 3, .int .i64 j]) LB.out WA.out WB.out
      exact bodyPost_ret (res_ctc (cs := #[.int .i64 0, .string ⟨#[]⟩, .int .i64 0, .int .i64 0]) (cs2 := #[.int .i64 3, .int .i64 j]) rfl w.heap.size (w.heap.size + 1) rfl rfl q2 q3 Tryd.underlying25 rfl HI1.out Tryd.underlying28 rfl HI2.out) rfl ⟨fun h => (by rw [GE.out] at h; cases h), fun _ => (by rw [GE.out] <;> rfl), q1⟩
    · have d6 : (k : Int) - (j : Int) ≤ 16 := by omega
      obtain ⟨q, hq⟩ : ∃ q, q = kw t := ⟨_, rfl⟩
      have KW1 : Hid (∀ w1, Calls Tryd.prog 16 #[.string t] w1 (BlP q w1)) := hid_of (fun w1 => by rw [hq]; exact qkeyword_any t w1)
      have HG3 : Hid (g = if q = true then ⟨2, t, 0, k, 0⟩ else ⟨1, t, 0, k, 0⟩) := hid_of (by rw [HG2.out, if_neg h16, hq])
      clear h16 hjk hks HG2 hq
      cases q
      · have GE : Hid (g = ⟨1, t, 0, k, 0⟩) := hid_of (by rw [HG3.out] <;> rfl)
        go_enter Tryd.func35, Tryd.ntmps35
        go_wp2_with (first
          | (go_at_call 45; ((with_reducible refine (L1.out _).mono ?_); (rintro e w' ⟨rfl, rfl⟩)))
          | (go_at_call 46; ((with_reducible refine (WD.out _).mono ?_); (rintro e w' ⟨rfl, rfl⟩))))
        rw [← HT.out]
        go_wp2_with (go_at_call 16; ((with_reducible refine (KW1.out _).mono ?_); (rintro e w1 ⟨rfl, h1⟩; have B1 := hid_of h1; clear h1; obtain ⟨ra, rb, rc⟩ := ZN.out _ B1.out; have WA := hid_of ra; have WB := hid_of rb; have LB := hid_of rc; obtain ⟨c0, c1, c2, c3, f0, f1, f2, f3⟩ := row4 ra; obtain ⟨e0, e1, g0, g1⟩ := row2 rb; clear ra rb rc)))
        rw [← HT.out]
        rw [set4 WA.out, set2 ((setRow_other _ _ _ _ (by omega)).trans WB.out)]
        obtain ⟨q1, q2, q3⟩ := nex_end (a := #[.int .i64 1, .string t, .int .i64 0, .int .i64 j]) (b := #[.int .i64 0, .int .i64 0]) LB.out WA.out WB.out
        exact bodyPost_ret (res_ctc (cs := #[.int .i64 1, .string t, .int .i64 0, .int .i64 j]) (cs2 := #[.int .i64 0, .int .i64 0]) rfl w.heap.size (w.heap.size + 1) rfl rfl q2 q3 Tryd.underlying25 rfl HI1.out Tryd.underlying28 rfl HI2.out) rfl ⟨fun _ => (by rw [GE.out] <;> rfl), fun h => absurd (by rw [GE.out] <;> rfl) h, q1⟩
      · have GE : Hid (g = ⟨2, t, 0, k, 0⟩) := hid_of (by rw [HG3.out] <;> rfl)
        go_enter Tryd.func35, Tryd.ntmps35
        go_wp2_with (first
          | (go_at_call 45; ((with_reducible refine (L1.out _).mono ?_); (rintro e w' ⟨rfl, rfl⟩)))
          | (go_at_call 46; ((with_reducible refine (WD.out _).mono ?_); (rintro e w' ⟨rfl, rfl⟩))))
        rw [← HT.out]
        go_wp2_with (go_at_call 16; ((with_reducible refine (KW1.out _).mono ?_); (rintro e w1 ⟨rfl, h1⟩; have B1 := hid_of h1; clear h1; obtain ⟨ra, rb, rc⟩ := ZN.out _ B1.out; have WA := hid_of ra; have WB := hid_of rb; have LB := hid_of rc; obtain ⟨c0, c1, c2, c3, f0, f1, f2, f3⟩ := row4 ra; obtain ⟨e0, e1, g0, g1⟩ := row2 rb; clear ra rb rc)))
        rw [← HT.out]
        rw [set4 WA.out, set2 ((setRow_other _ _ _ _ (by omega)).trans WB.out)]
        obtain ⟨q1, q2, q3⟩ := nex_end (a := #[.int .i64 2, .string t, .int .i64 0, .int .i64 j]) (b := #[.int .i64 0, .int .i64 0]) LB.out WA.out WB.out
        exact bodyPost_ret (res_ctc (cs := #[.int .i64 2, .string t, .int .i64 0, .int .i64 j]) (cs2 := #[.int .i64 0, .int .i64 0]) rfl w.heap.size (w.heap.size + 1) rfl rfl q2 q3 Tryd.underlying25 rfl HI1.out Tryd.underlying28 rfl HI2.out) rfl ⟨fun _ => (by rw [GE.out] <;> rfl), fun h => absurd (by rw [GE.out] <;> rfl) h, q1⟩
  cases q2
  rotate_left
  · have HG1 : Hid (g = intF s j) := hid_of (by rw [HG.out]; simp)
    have IC := hid_of (qinteger_any s j ((w.alloc (.cells #[.int .i64 0, .string ⟨#[]⟩, .int .i64 0, .int .i64 0] 25)).alloc (.cells #[.int .i64 0, .int .i64 0] 28)) HS.out HJ.out (by rw [HY.out]; exact D2.out.symm))
    rw [← HG1.out] at IC
    clear HG HG1 D2
    obtain ⟨kd, tx, nn, st, cd⟩ := g
    by_cases hc : cd = 0
    · have IC2 : Hid (Calls Tryd.prog 48 #[.string s, .int .i64 j] ((w.alloc (.cells #[.int .i64 0, .string ⟨#[]⟩, .int .i64 0, .int .i64 0] 25)).alloc (.cells #[.int .i64 0, .int .i64 0] 28)) fun e w1 => e = _ ∧ Below (((w.alloc (.cells #[.int .i64 0, .string ⟨#[]⟩, .int .i64 0, .int .i64 0] 25)).alloc (.cells #[.int .i64 0, .int .i64 0] 28))).heap.size ((w.alloc (.cells #[.int .i64 0, .string ⟨#[]⟩, .int .i64 0, .int .i64 0] 25)).alloc (.cells #[.int .i64 0, .int .i64 0] 28)) w1) := hid_of (IC.out.mono fun e w1 h => ⟨h.1 hc, h.2.2⟩)
      have GE := hid_of hc
      clear IC hc
      go_enter Tryd.func35, Tryd.ntmps35
      go_wp2_with (first
        | (go_at_call 45; ((with_reducible refine (L1.out _).mono ?_); (rintro e w' ⟨rfl, rfl⟩)))
        | (go_at_call 47; ((with_reducible refine (L2.out _).mono ?_); (rintro e w' ⟨rfl, rfl⟩)))
        | (go_at_call 48; ((with_reducible refine (IC2.out).mono ?_); (rintro e w1 ⟨rfl, h1⟩; have B1 := hid_of h1; clear h1; obtain ⟨ra, rb, rc⟩ := ZN.out _ B1.out; have WA := hid_of ra; have WB := hid_of rb; have LB := hid_of rc; obtain ⟨c0, c1, c2, c3, f0, f1, f2, f3⟩ := row4 ra; obtain ⟨e0, e1, g0, g1⟩ := row2 rb; clear ra rb rc))))
      rw [set4 WA.out, set2 ((setRow_other _ _ _ _ (by omega)).trans WB.out)]
      obtain ⟨q1, q2, q3⟩ := nex_end (a := #[.int .i64 kd, .string tx, .int .i64 nn, .int .i64 j]) (b := #[.int .i64 0, .int .i64 0]) LB.out WA.out WB.out
      exact bodyPost_ret (res_ctc (cs := #[.int .i64 kd, .string tx, .int .i64 nn, .int .i64 j]) (cs2 := #[.int .i64 0, .int .i64 0]) rfl w.heap.size (w.heap.size + 1) rfl rfl q2 q3 Tryd.underlying25 rfl HI1.out Tryd.underlying28 rfl HI2.out) rfl ⟨fun _ => rfl, fun h => absurd GE.out h, q1⟩
    · have IC2 : Hid (Calls Tryd.prog 48 #[.string s, .int .i64 j] ((w.alloc (.cells #[.int .i64 0, .string ⟨#[]⟩, .int .i64 0, .int .i64 0] 25)).alloc (.cells #[.int .i64 0, .int .i64 0] 28)) fun e w1 => e = _ ∧ Below (((w.alloc (.cells #[.int .i64 0, .string ⟨#[]⟩, .int .i64 0, .int .i64 0] 25)).alloc (.cells #[.int .i64 0, .int .i64 0] 28))).heap.size ((w.alloc (.cells #[.int .i64 0, .string ⟨#[]⟩, .int .i64 0, .int .i64 0] 25)).alloc (.cells #[.int .i64 0, .int .i64 0] 28)) w1) := hid_of (IC.out.mono fun e w1 h => ⟨h.2.1 hc, h.2.2⟩)
      have GE := hid_of hc
      clear IC hc
      go_enter Tryd.func35, Tryd.ntmps35
      go_wp2_with (first
        | (go_at_call 45; ((with_reducible refine (L1.out _).mono ?_); (rintro e w' ⟨rfl, rfl⟩)))
        | (go_at_call 47; ((with_reducible refine (L2.out _).mono ?_); (rintro e w' ⟨rfl, rfl⟩)))
        | (go_at_call 48; ((with_reducible refine (IC2.out).mono ?_); (rintro e w1 ⟨rfl, h1⟩; have B1 := hid_of h1; clear h1; obtain ⟨ra, rb, rc⟩ := ZN.out _ B1.out; have WA := hid_of ra; have WB := hid_of rb; have LB := hid_of rc; obtain ⟨c0, c1, c2, c3, f0, f1, f2, f3⟩ := row4 ra; obtain ⟨e0, e1, g0, g1⟩ := row2 rb; clear ra rb rc))))
      rw [set4 WA.out, set2 ((setRow_other _ _ _ _ (by omega)).trans WB.out)]
      obtain ⟨q1, q2, q3⟩ := nex_end (a := #[.int .i64 0, .string ⟨#[]⟩, .int .i64 0, .int .i64 0]) (b := #[.int .i64 cd, .int .i64 j]) LB.out WA.out WB.out
      exact bodyPost_ret (res_ctc (cs := #[.int .i64 0, .string ⟨#[]⟩, .int .i64 0, .int .i64 0]) (cs2 := #[.int .i64 cd, .int .i64 j]) rfl w.heap.size (w.heap.size + 1) rfl rfl q2 q3 Tryd.underlying25 rfl HI1.out Tryd.underlying28 rfl HI2.out) rfl ⟨fun h => absurd h GE.out, fun _ => rfl, q1⟩
  clear D2
  by_cases h39 : y = 39
  · have d39 : (y == 39) = true := by rw [h39]; rfl
    have HG1 : Hid (g = quoF s j) := hid_of (by rw [HG.out]; simp [h39])
    obtain ⟨k, hk⟩ : ∃ k, k = we s (j + 1) := ⟨_, rfl⟩
    have WD : Hid (∀ w1, Calls Tryd.prog 46 #[.string s, .int .i64 ((j : Int) + 1)] w1 (NumP k w1)) := hid_of (fun w1 => by rw [hk]; exact qword_any s (j + 1) w1 HS.out HJ.out)
    have hjk : j + 1 ≤ k := by rw [hk]; exact run_ge _ _ _
    have hks : k ≤ s.size := by rw [hk]; exact run_le HJ.out
    have i1 : (j : Int) + 1 ≤ (k : Int) := by omega
    have i2 : (k : Int) ≤ (s.size : Int) := by omega
    obtain ⟨t, ht⟩ : ∃ t, t = s.extract (j + 1) k := ⟨_, rfl⟩
    have HT := hid_of ht
    have hts : t.size ≤ 1000000 := by rw [ht, ByteArray.size_extract]; omega
    have HG2 : Hid (g = if gt s k ≠ 39 then bad 2 else if isName (strBytes t) = false then bad 3 else ⟨4, t, 0, k + 1, 0⟩) := hid_of (by rw [HG1.out, quoF, ← hk, ht])
    obtain ⟨v, hv⟩ : ∃ v, v = isName (strBytes t) := ⟨_, rfl⟩
    have HVAL : Hid (∀ w1, Calls Tryd.prog 39 #[.string t] w1 fun e w2 => e = .returned (.bool v) ∧ w1 = w2) := hid_of (fun w1 => by rw [hv]; exact (rvalid_any t w1 (hmax hts)).mono fun _ _ h => ⟨h.1, h.2.symm⟩)
    rw [← hv] at HG2
    clear ht hk HG HG1 h39 hts hv
    by_cases hke : k = s.size
    · have GE : Hid (g = bad 2) := hid_of (by rw [HG2.out, if_pos (by rw [gt_ge (by omega)]; decide)])
      have d6 : ((k : Int) == (s.size : Int)) = true := by rw [hke]; simp
      have d7 : decide (k = s.size) = true := decide_eq_true hke
      clear hjk hks HG2 hke
      go_enter Tryd.func35, Tryd.ntmps35
      go_wp2_with (first
        | (go_at_call 45; ((with_reducible refine (L1.out _).mono ?_); (rintro e w' ⟨rfl, rfl⟩)))
        | (go_at_call 47; ((with_reducible refine (L2.out _).mono ?_); (rintro e w' ⟨rfl, rfl⟩)))
        | (go_at_call 46; ((with_reducible refine (WD.out _).mono ?_); (rintro e w' ⟨rfl, rfl⟩)))
        | (go_at_call 33; ((with_reducible refine (qfault_any _ _ _).mono ?_); (rintro e w1 ⟨rfl, h1⟩; have B1 := hid_of (h1); clear h1; obtain ⟨ra, rb, rc⟩ := ZN.out _ B1.out; have WA := hid_of ra; have WB := hid_of rb; have LB := hid_of rc; obtain ⟨c0, c1, c2, c3, f0, f1, f2, f3⟩ := row4 ra; obtain ⟨e0, e1, g0, g1⟩ := row2 rb; clear ra rb rc))))
      rw [set4 WA.out, set2 ((setRow_other _ _ _ _ (by omega)).trans WB.out)]
      obtain ⟨q1, q2, q3⟩ := nex_end (a := #[.int .i64 0, .string ⟨#[]⟩, .int .i64 0, .int .i64 0]) (b := #[.int .i64 2, .int .i64 j]) LB.out WA.out WB.out
      exact bodyPost_ret (res_ctc (cs := #[.int .i64 0, .string ⟨#[]⟩, .int .i64 0, .int .i64 0]) (cs2 := #[.int .i64 2, .int .i64 j]) rfl w.heap.size (w.heap.size + 1) rfl rfl q2 q3 Tryd.underlying25 rfl HI1.out Tryd.underlying28 rfl HI2.out) rfl ⟨fun h => (by rw [GE.out] at h; cases h), fun _ => (by rw [GE.out] <;> rfl), q1⟩
    · have hkl : k < s.size := by omega
      have d6 : ((k : Int) == (s.size : Int)) = false := by simp; omega
      have d7 : decide (k = s.size) = false := decide_eq_false hke
      have i3 : (k : Int) < (s.size : Int) := by omega
      obtain ⟨z, hz⟩ : ∃ z : Int, z = ((s[k]).toNat : Int) := ⟨_, rfl⟩
      have hzs : ((s[k]).toNat : Int) = z := hz.symm
      have HG3 : Hid (g = if z ≠ 39 then bad 2 else if v = false then bad 3 else ⟨4, t, 0, k + 1, 0⟩) := hid_of (by rw [HG2.out, gt_lt hkl, hz])
      clear hjk hks HG2 hke hz
      by_cases hz39 : z = 39
      · have d8 : (z != 39) = false := by rw [hz39]; rfl
        cases v
        · have GE : Hid (g = bad 3) := hid_of (by rw [HG3.out]; simp [hz39])
          clear hz39 HG3
          go_enter Tryd.func35, Tryd.ntmps35
          go_wp2_with (first
            | (go_at_call 45; ((with_reducible refine (L1.out _).mono ?_); (rintro e w' ⟨rfl, rfl⟩)))
            | (go_at_call 47; ((with_reducible refine (L2.out _).mono ?_); (rintro e w' ⟨rfl, rfl⟩)))
            | (go_at_call 46; ((with_reducible refine (WD.out _).mono ?_); (rintro e w' ⟨rfl, rfl⟩))))
          rw [← HT.out]
          go_wp2_with (first
            | (go_at_call 39; ((with_reducible refine (HVAL.out _).mono ?_); (rintro e w' ⟨rfl, rfl⟩)))
            | (go_at_call 33; ((with_reducible refine (qfault_any _ _ _).mono ?_); (rintro e w1 ⟨rfl, h1⟩; have B1 := hid_of (h1); clear h1; obtain ⟨ra, rb, rc⟩ := ZN.out _ B1.out; have WA := hid_of ra; have WB := hid_of rb; have LB := hid_of rc; obtain ⟨c0, c1, c2, c3, f0, f1, f2, f3⟩ := row4 ra; obtain ⟨e0, e1, g0, g1⟩ := row2 rb; clear ra rb rc))))
          rw [set4 WA.out, set2 ((setRow_other _ _ _ _ (by omega)).trans WB.out)]
          obtain ⟨q1, q2, q3⟩ := nex_end (a := #[.int .i64 0, .string ⟨#[]⟩, .int .i64 0, .int .i64 0]) (b := #[.int .i64 3, .int .i64 j]) LB.out WA.out WB.out
          exact bodyPost_ret (res_ctc (cs := #[.int .i64 0, .string ⟨#[]⟩, .int .i64 0, .int .i64 0]) (cs2 := #[.int .i64 3, .int .i64 j]) rfl w.heap.size (w.heap.size + 1) rfl rfl q2 q3 Tryd.underlying25 rfl HI1.out Tryd.underlying28 rfl HI2.out) rfl ⟨fun h => (by rw [GE.out] at h; cases h), fun _ => (by rw [GE.out] <;> rfl), q1⟩
        · have GE : Hid (g = ⟨4, t, 0, k + 1, 0⟩) := hid_of (by rw [HG3.out]; simp [hz39])
          clear hz39 HG3
          go_enter Tryd.func35, Tryd.ntmps35
          go_wp2_with (first
            | (go_at_call 45; ((with_reducible refine (L1.out _).mono ?_); (rintro e w' ⟨rfl, rfl⟩)))
            | (go_at_call 47; ((with_reducible refine (L2.out _).mono ?_); (rintro e w' ⟨rfl, rfl⟩)))
            | (go_at_call 46; ((with_reducible refine (WD.out _).mono ?_); (rintro e w' ⟨rfl, rfl⟩))))
          rw [← HT.out]
          go_wp2_with (go_at_call 39; ((with_reducible refine (HVAL.out _).mono ?_); (rintro e w' ⟨rfl, rfl⟩)))
          rw [← HT.out]
          refine bodyPost_ret (res_ctc (cs := #[.int .i64 4, .string t, .int .i64 0, .int .i64 j]) (cs2 := #[.int .i64 0, .int .i64 0]) rfl w.heap.size (w.heap.size + 1) rfl rfl (two_a _ _ _) (two_b _ _ _) Tryd.underlying25 rfl HI1.out Tryd.underlying28 rfl HI2.out) rfl ⟨fun _ => (by rw [GE.out] <;> rfl), fun h => absurd (by rw [GE.out] <;> rfl) h, ?_⟩
          exact bel_two _ _ _
      · have d8 : (z != 39) = true := by simpa using hz39
        have GE : Hid (g = bad 2) := hid_of (by rw [HG3.out, if_pos hz39])
        clear hz39 HG3
        go_enter Tryd.func35, Tryd.ntmps35
        go_wp2_with (first
          | (go_at_call 45; ((with_reducible refine (L1.out _).mono ?_); (rintro e w' ⟨rfl, rfl⟩)))
          | (go_at_call 47; ((with_reducible refine (L2.out _).mono ?_); (rintro e w' ⟨rfl, rfl⟩)))
          | (go_at_call 46; ((with_reducible refine (WD.out _).mono ?_); (rintro e w' ⟨rfl, rfl⟩)))
          | (go_at_call 33; ((with_reducible refine (qfault_any _ _ _).mono ?_); (rintro e w1 ⟨rfl, h1⟩; have B1 := hid_of (h1); clear h1; obtain ⟨ra, rb, rc⟩ := ZN.out _ B1.out; have WA := hid_of ra; have WB := hid_of rb; have LB := hid_of rc; obtain ⟨c0, c1, c2, c3, f0, f1, f2, f3⟩ := row4 ra; obtain ⟨e0, e1, g0, g1⟩ := row2 rb; clear ra rb rc))))
        rw [set4 WA.out, set2 ((setRow_other _ _ _ _ (by omega)).trans WB.out)]
        obtain ⟨q1, q2, q3⟩ := nex_end (a := #[.int .i64 0, .string ⟨#[]⟩, .int .i64 0, .int .i64 0]) (b := #[.int .i64 2, .int .i64 j]) LB.out WA.out WB.out
        exact bodyPost_ret (res_ctc (cs := #[.int .i64 0, .string ⟨#[]⟩, .int .i64 0, .int .i64 0]) (cs2 := #[.int .i64 2, .int .i64 j]) rfl w.heap.size (w.heap.size + 1) rfl rfl q2 q3 Tryd.underlying25 rfl HI1.out Tryd.underlying28 rfl HI2.out) rfl ⟨fun h => (by rw [GE.out] at h; cases h), fun _ => (by rw [GE.out] <;> rfl), q1⟩
  · have d39 : (y == 39) = false := by simpa using h39
    have HG1 : Hid (g = sigF s j) := hid_of (by rw [HG.out]; simp [h39])
    have SGC := hid_of (qsigns_any ((w.alloc (.cells #[.int .i64 0, .string ⟨#[]⟩, .int .i64 0, .int .i64 0] 25)).alloc (.cells #[.int .i64 0, .int .i64 0] 28)))
    have SG0 : Hid (SgF s j 0) := hid_of (fun m x h => by omega)
    have HC : Hid (∀ g2 n w1, n = 17 → Rd w1 (.slice (some ⟨g2, 0, none⟩) n n) (strs SR) → ∀ i, i < 17 → ∃ x, SR[i]? = some x ∧ w1.cell? ⟨g2, i, none⟩ = some (.string x)) := hid_of (fun g2 n w1 hn R i hi => by
      obtain ⟨ao, cap, e, r2, r3, r4⟩ := R
      have hk : i < SR.length := hi
      obtain ⟨g3, o, p1, _, p3⟩ := r4 (by simp [strs, SR])
      simp only [Value.slice.injEq] at e
      obtain ⟨e1, _, _⟩ := e
      rw [← e1] at p1
      simp only [Option.some.injEq, Addr.mk.injEq, and_true] at p1
      obtain ⟨rfl, rfl⟩ := p1
      have := p3 i (.string SR[i]) (by rw [strs, List.getElem?_map, List.getElem?_eq_getElem hk]; rfl)
      rw [Nat.zero_add] at this
      exact ⟨SR[i], List.getElem?_eq_getElem hk, this⟩)
    have HSL : Hid (SR.length = 17) := hid_of rfl
    have HSZ : Hid (∀ (i : Nat) (x : ByteArray), SR[i]? = some x → x.size ≤ 2) := hid_of (fun i x h => by have := (sr_sz h).2; split at this <;> omega)
    clear HG h39
    go_enter Tryd.func35, Tryd.ntmps35
    go_wp2_with (first
      | (go_at_call 45; ((with_reducible refine (L1.out _).mono ?_); (rintro e w' ⟨rfl, rfl⟩)))
      | (go_at_call 47; ((with_reducible refine (L2.out _).mono ?_); (rintro e w' ⟨rfl, rfl⟩)))
      | (go_at_call 31; ((with_reducible refine (SGC.out).mono ?_); (rintro e w1 ⟨g2, n, rfl, h1, h2, h3⟩; have HN17 := hid_of (h1.trans HSL.out); have RD := hid_of h2; have B1 := hid_of h3; clear h1 h2 h3))))
    obtain rfl : n = 17 := HN17.out
    clear HN17
    go_loopw [12] (fun iv wr => ∃ i : Nat, iv = .int .i64 i ∧ i ≤ 17 ∧ Hid (SgF s j i) ∧ Hid (Rd wr (.slice (some ⟨g2, 0, none⟩) 17 17) (strs SR)) ∧ Hid (Below ((w.alloc (.cells #[.int .i64 0, .string ⟨#[]⟩, .int .i64 0, .int .i64 0] 25)).alloc (.cells #[.int .i64 0, .int .i64 0] 28)).heap.size ((w.alloc (.cells #[.int .i64 0, .string ⟨#[]⟩, .int .i64 0, .int .i64 0] 25)).alloc (.cells #[.int .i64 0, .int .i64 0] 28)) wr)) (fun iv _ => 17 - (intOf iv).toNat)
    case atStart => exact ⟨0, rfl, by omega, SG0, RD, B1⟩
    case round =>
      clear B1 RD
      obtain ⟨i, rfl, hi, hsg, hrd, B1⟩ := hrel
      by_cases hlt : i < 17
      · obtain ⟨x, hx, hcx⟩ := HC.out g2 17 wr rfl hrd.out i hlt
        have HX := hid_of hx
        have HLT := hid_of hlt
        obtain ⟨c, hc⟩ : ∃ c, c = x.size := ⟨_, rfl⟩
        have hxc : x.size = c := hc.symm
        have HXC := hid_of hxc
        have hc2 : c ≤ 2 := by rw [hc]; exact HSZ.out i x hx
        have hc3 : (c : Int) ≤ 2 := by omega
        clear hx hc
        have d1 : decide (i < 17) = true := decide_eq_true hlt
        have d1' : decide ((i : Int) < 17) = true := decide_eq_true (by omega)
        have hlt' : (i : Int) < 17 := by omega
        by_cases hfit : c ≤ s.size - j
        · have dF : decide ((c : Int) ≤ (s.size : Int) - (j : Int)) = true := decide_eq_true (by omega)
          have i1 : (j : Int) + (c : Int) ≤ (s.size : Int) := by omega
          have i2 : (j : Int) ≤ (j : Int) + (c : Int) := by omega
          have i3 : (c : Int) ≤ (s.size : Int) - (j : Int) := by omega
          have a6 : IntKind.i64.wrap ((j : Int) + (c : Int)) = (j : Int) + (c : Int) := IntWalk.i64_in _ (by omega)
          have a8 : IntKind.i64.wrap ((s.size : Int) - (j : Int)) = (s.size : Int) - (j : Int) := IntWalk.i64_in _ (by omega)
          have a7 : ((j : Int) + (c : Int)).toNat = j + c := by omega
          obtain ⟨t, ht⟩ : ∃ t, t = s.extract j (j + c) := ⟨_, rfl⟩
          have hts : s.extract j (j + c) = t := ht.symm
          have HTT := hid_of hts
          clear ht
          by_cases ex : t = x
          · have GE : Hid (g = ⟨5, x, 0, j + c, 0⟩) := hid_of (by rw [HG1.out, ← HXC.out]; exact hsg.out.hit HJ.out HX.out (by rw [HXC.out]; exact hfit) (by rw [HXC.out, HTT.out]; exact ex))
            have dE := eqB_t ex
            clear ex hfit hlt
            go_wp2
            go_quiet (fail)
            clear a6 a7 a8
            obtain ⟨ra, rb, rc⟩ := ZN.out _ (bel_drewN B1.out nq)
            have WA := hid_of ra
            have WB := hid_of rb
            have LB := hid_of rc
            obtain ⟨c0, c1, c2, c3, f0, f1, f2, f3⟩ := row4 ra
            obtain ⟨e0, e1, g0, g1⟩ := row2 rb
            clear ra rb rc
            go_wp2
            rw [set4 WA.out, set2 ((setRow_other _ _ _ _ (by omega)).trans WB.out)]
            obtain ⟨q1, q2, q3⟩ := nex_end (a := #[.int .i64 5, .string x, .int .i64 0, .int .i64 j]) (b := #[.int .i64 0, .int .i64 0]) LB.out WA.out WB.out
            exact bodyPost_ret (res_ctc (cs := #[.int .i64 5, .string x, .int .i64 0, .int .i64 j]) (cs2 := #[.int .i64 0, .int .i64 0]) rfl w.heap.size (w.heap.size + 1) rfl rfl q2 q3 Tryd.underlying25 rfl HI1.out Tryd.underlying28 rfl HI2.out) rfl ⟨fun _ => (by rw [GE.out] <;> rfl), fun h => absurd (by rw [GE.out] <;> rfl) h, q1⟩
          · have NX : Hid (SgF s j (i + 1)) := hid_of (hsg.out.miss HX.out (by rw [HXC.out, HTT.out]; exact fun h => ex h.2))
            have dE := eqB_f ex
            clear ex hfit hlt
            go_wp2
            go_quiet (fail)
            clear a6 a7 a8
            go_wp2
            go_roundw
            case rel => exact ⟨i + 1, by go_num, by have := HLT.out; omega, NX, hid_of (hrd.out.at (bel_drewN (bel_self _) _)), hid_of (bel_drewN B1.out _)⟩
            case measure => have := HLT.out; simp [intOf]; omega
        · have NX : Hid (SgF s j (i + 1)) := hid_of (hsg.out.miss HX.out (by rw [HXC.out]; exact fun h => hfit h.1))
          have dF : decide ((c : Int) ≤ (s.size : Int) - (j : Int)) = false := decide_eq_false (by omega)
          have a8 : IntKind.i64.wrap ((s.size : Int) - (j : Int)) = (s.size : Int) - (j : Int) := IntWalk.i64_in _ (by omega)
          clear hfit hlt
          go_wp2
          go_quiet (fail)
          clear a8
          go_wp2
          go_roundw
          case rel => exact ⟨i + 1, by go_num, by have := HLT.out; omega, NX, hid_of (hrd.out.at (bel_drewN (bel_self _) _)), hid_of (bel_drewN B1.out _)⟩
          case measure => have := HLT.out; simp [intOf]; omega
      · have d1 : decide (i < 17) = false := decide_eq_false hlt
        have d1' : decide ((i : Int) < 17) = false := decide_eq_false (by omega)
        have GE : Hid (g = bad 2) := hid_of (by rw [HG1.out]; exact hsg.out.none (by omega) HJ.out)
        have B0 := B1
        clear B1
        go_wp2_with (go_at_call 33; ((with_reducible refine (qfault_any _ _ _).mono ?_); (rintro e w1 ⟨rfl, h1⟩; have B1 := hid_of (B0.out.trans (h1.mono B0.out.size)); clear h1; obtain ⟨ra, rb, rc⟩ := ZN.out _ B1.out; have WA := hid_of ra; have WB := hid_of rb; have LB := hid_of rc; obtain ⟨c0, c1, c2, c3, f0, f1, f2, f3⟩ := row4 ra; obtain ⟨e0, e1, g0, g1⟩ := row2 rb; clear ra rb rc)))
        rw [set4 WA.out, set2 ((setRow_other _ _ _ _ (by omega)).trans WB.out)]
        obtain ⟨q1, q2, q3⟩ := nex_end (a := #[.int .i64 0, .string ⟨#[]⟩, .int .i64 0, .int .i64 0]) (b := #[.int .i64 2, .int .i64 j]) LB.out WA.out WB.out
        exact bodyPost_ret (res_ctc (cs := #[.int .i64 0, .string ⟨#[]⟩, .int .i64 0, .int .i64 0]) (cs2 := #[.int .i64 2, .int .i64 j]) rfl w.heap.size (w.heap.size + 1) rfl rfl q2 q3 Tryd.underlying25 rfl HI1.out Tryd.underlying28 rfl HI2.out) rfl ⟨fun h => (by rw [GE.out] at h; cases h), fun _ => (by rw [GE.out] <;> rfl), q1⟩
end Go.Proofs.YtdmjlmlmdllhgaaDoor
