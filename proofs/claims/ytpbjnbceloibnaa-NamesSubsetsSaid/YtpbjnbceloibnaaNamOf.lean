/- Of: a slice of strings, sorted, each once; slices.Clone and slices.Sort by the library's contracts. Bounds on sizes alone. -/
import Derived.Test.YtpbjnbceloibnaaNamSort
import Derived.Test.YtpbjnbceloibnaaShelf
namespace Go.Proofs.Ytpbjnbceloibnaa
open Go.RowKit

/-- The elements may take this many bytes. -/
def big : Nat := 1000000
theorem step_b {B : Nat} {w w1 w2 : World} (h1 : Below B w w1) (h2 : Below w1.heap.size w1 w2) (hB : B ≤ w1.heap.size) : Below B w w2 := h1.trans (h2.mono hB)

theorem sorted_world {w : World} {g n q : Nat} {cur : Array Value} {E : TypeId} {os : Array Obj} (hb : w.heap[g]? = some (.cells cur E (0, 0))) (d : Array Str) (hd : d.size = n) (hn : n ≤ cur.size) :
    Below g w (Sort.grow (Sort.putRow encStr (Sort.ahead w q) g 0 d) os) ∧ g < (Sort.grow (Sort.putRow encStr (Sort.ahead w q) g 0 d) os).heap.size ∧
    ∀ j, j < n → (Sort.grow (Sort.putRow encStr (Sort.ahead w q) g 0 d) os).cell? ⟨g, j, none⟩ = some (.string (ba d[j]!)) := by
  have hg : g < w.heap.size := lt_of_block hb
  have e1 : (Sort.putRow encStr (Sort.ahead w q) g 0 d).heap.size = w.heap.size := by simp [Sort.putRow, Sort.mapBlock, Sort.ahead]
  refine ⟨⟨rfl, rfl, rfl, ?_, fun k hk => ?_⟩, ?_, fun j hj => ?_⟩
  · rw [Sort.size_grow, e1]; omega
  · rw [Sort.heap_grow_old _ _ (by rw [e1]; omega)]
    show (w.heap.modify g _)[k]? = _
    rw [Array.getElem?_modify, if_neg (by omega)]
  · rw [Sort.size_grow, e1]; omega
  · rw [Sort.cell?_grow _ _ _ (by rw [e1]; exact hg)]
    have e2 : (Sort.putRow encStr (Sort.ahead w q) g 0 d).heap[g]? = some (.cells (Sort.putCells encStr 0 d cur) E (0, 0)) := by
      show (w.heap.modify g _)[g]? = _
      rw [Array.getElem?_modify, if_pos rfl, hb]; rfl
    have e3 : (Sort.putCells encStr 0 d cur).toList[j]? = some (.string (ba d[j]!)) := by
      have hj2 : j < cur.size := by omega
      have hjd : j < d.size := by omega
      simp [Sort.putCells, Array.getElem?_eq_getElem hj2, hjd]
      rfl
    have := World.news_of_block e2 j _ e3
    rw [Addr.add_mid, Nat.zero_add] at this
    exact this

theorem ow_cells {B n cap g : Nat} {w0 w : World} {l : List Str} (H : Ow 9 B w0 w (.slice (some ⟨g, 0, none⟩) n cap) (ss l)) :
    n = l.length ∧ B ≤ g ∧ g < w.heap.size ∧ n ≤ cap ∧ cap ≤ maxLen ∧ (∃ cur : Array Value, w.heap[g]? = some (.cells cur 9 (0, 0)) ∧ n ≤ cur.size) ∧ Sort.Holds encStr w g 0 l.toArray := by
  rcases H.own.2 with ⟨h1, _⟩ | ⟨g2, c, cur, h1, hb, hg, hnc, hcm, hsz, ht⟩
  · cases h1
  · simp only [Value.slice.injEq, Option.some.injEq, Addr.mk.injEq] at h1
    obtain ⟨⟨rfl, _⟩, e1, rfl⟩ := h1
    rw [ss_length] at hnc
    have e1' : n = l.length := by rw [e1, ss_length]
    subst e1'
    refine ⟨rfl, hb, lt_of_block hg, hnc, hcm, ⟨cur, hg, by omega⟩, fun j hj => ?_⟩
    have hj2 : j < l.length := by simpa using hj
    have := World.news_of_block hg j (.string (ba (l[j]'hj2))) (by
      have h3 : (ss l)[j]? = some (.string (ba (l[j]'hj2))) := by simp [ss, hj2]
      rw [← ht, List.getElem?_take] at h3
      split at h3
      · exact h3
      · cases h3)
    rw [Addr.add_mid] at this
    refine ⟨this.trans ?_, by simp [World.frozen?, hg]⟩
    simp [encStr, ba, hj2]

theorem ss_len1 (x : Str) : (ss [x]).length = 1 := rfl
theorem sort_any (g n cap B : Nat) (l : List Str) (w0 w : World) (H : Ow 9 B w0 w (.slice (some ⟨g, 0, none⟩) n cap) (ss l)) (hl : l.length ≤ big) :
    Calls Try.prog 42 #[.slice (some ⟨g, 0, none⟩) n cap] w fun e w' => e = .returned (.tuple #[]) ∧ Rd w' (.slice (some ⟨g, 0, none⟩) n cap) (ss (srt l)) ∧ Below B w0 w' := by
  unfold big at hl
  obtain ⟨rfl, hBg, hg, hc1, hc2, ⟨cur, hb, hn⟩, hH⟩ := ow_cells H
  refine (sh_slices_Sort_string g 0 cap l w hH hg (by omega)).mono ?_
  rintro e w' ⟨he, q, os, rfl⟩
  have hs := sorted_world (q := q) (os := os) hb (srt l).toArray (n := l.length) (by simp [srt_length]) hn
  refine ⟨he, ?_, H.bel.trans (hs.1.mono hBg)⟩
  unfold maxLen at hc2
  refine ⟨some ⟨g, 0, none⟩, cap, by rw [ss_length, srt_length], by rw [ss_length, srt_length]; exact hc1, by omega, fun _ => ⟨g, 0, rfl, hs.2.1, fun j u hu => ?_⟩⟩
  have hj : j < l.length := by
    have := (List.getElem?_eq_some_iff.1 hu).1
    rwa [ss_length, srt_length] at this
  rw [Nat.zero_add]
  refine (hs.2.2 j hj).trans ?_
  have hj2 : j < (srt l).length := by rw [srt_length]; exact hj
  rw [← hu]
  simp [ss, hj2]

theorem clone_any (ao : Option Addr) (n cap : Nat) (l : List Str) (w : World) (R : Rd w (.slice ao n cap) (ss l)) (hl : l.length ≤ big) :
    Calls Try.prog 41 #[.slice ao n cap] w fun e w' => ∃ xo xc, e = .returned (.slice xo n xc) ∧ Ow 9 w.heap.size w w' (.slice xo n xc) (ss l) := by
  unfold big at hl
  obtain ⟨hn, h1, h2, h3⟩ := rds_open R
  have key : ∀ (v' : Value) (w' : World), w'.ownsRow w.heap.size 9 1 v' n (ss l) → Below w.heap.size w w' → ∃ xo xc, Ending.returned v' = .returned (.slice xo n xc) ∧ Ow 9 w.heap.size w w' (.slice xo n xc) (ss l) := by
    intro v' w' ho hb
    obtain ⟨xo, xc, rfl⟩ := own_shape ho
    exact ⟨xo, xc, rfl, Nat.le_refl _, hb, by rw [ss_length, ← hn]; exact ho⟩
  rcases h3 with h3 | ⟨g, o, rfl, hg, hc⟩
  · obtain rfl : n = 0 := by rw [hn, h3]; rfl
    subst h3
    cases ao with
    | none =>
      refine (sh_slices_Clone_string_nil 0 cap w).mono ?_
      rintro e w' ⟨rfl, rfl⟩
      exact ⟨none, 0, rfl, ow_nil _ _⟩
    | some a =>
      refine (sh_slices_Clone_string_zero a cap w).mono ?_
      rintro e w' ⟨v', rfl, ho, _, hb⟩
      exact key v' w' ho hb
  · refine (sh_slices_Clone_string g o n cap (l.map ba) w (by simp [hn]) (by omega) (fun j hj => ?_)).mono ?_
    · have hj2 : j < l.length := by simpa using hj
      rw [hc j (l[j]'hj2) (List.getElem?_eq_getElem hj2)]
      simp [List.getD, hj2]
    · rintro e w' ⟨v', rfl, ho, _, hb⟩
      refine key v' w' ?_ hb
      have e1 : ((l.map ba).take n).map Value.string = ss l := by
        rw [List.take_of_length_le (by simp [hn]), List.map_map]; rfl
      rw [← e1]; exact ho

theorem clone_ne (ao : Option Addr) (n cap : Nat) (l : List Str) (w : World) (R : Rd w (.slice ao n cap) (ss l)) (hl : l.length ≤ big) (hne : 0 < l.length) :
    Calls Try.prog 41 #[.slice ao n cap] w fun e w' => ∃ g xc, e = .returned (.slice (some ⟨g, 0, none⟩) n xc) ∧ Ow 9 w.heap.size w w' (.slice (some ⟨g, 0, none⟩) n xc) (ss l) :=
  (clone_any ao n cap l w R hl).mono fun e w' ⟨xo, xc, h1, h2⟩ => by
    rcases h2.own.2 with ⟨h3, h4⟩ | ⟨g, c, cur, h3, _⟩
    · rw [ss_length] at h4; omega
    · simp only [Value.slice.injEq] at h3
      obtain ⟨rfl, _, _⟩ := h3
      exact ⟨g, xc, h1, h2⟩
theorem sort_none (p : Option Addr) (cap : Nat) (w : World) : Calls Try.prog 42 #[.slice p 0 cap] w fun e w' => e = .returned (.tuple #[]) ∧ w = w' :=
  (sh_slices_Sort_string_none p cap w).mono fun _ _ h => ⟨h.1, h.2.symm⟩
theorem ow_keep {E : TypeId} {w w' : World} (h : Below w.heap.size w w') : Ow E w.heap.size w w' (.slice none 0 0) [] := ⟨Nat.le_refl _, h, World.ownsRow_nil _ _ _ _⟩
/-- What a slice of strings holds, k elements in. -/
theorem ddp_len_le (a : List Str) : ∀ k, (ddp a k).length ≤ k := by
  intro k; induction k with
  | zero => simp [ddp]
  | succ k ih =>
    rw [ddp]; split
    · rw [List.length_append]; simp; omega
    · omega
theorem ddp_yes {a : List Str} {k : Nat} (h : k = 0 ∨ a.getD (k - 1) [] < a.getD k []) : ddp a (k + 1) = ddp a k ++ [a.getD k []] := by rw [ddp, if_pos h]
theorem ddp_no {a : List Str} {k : Nat} (h : ¬ (k = 0 ∨ a.getD (k - 1) [] < a.getD k [])) : ddp a (k + 1) = ddp a k := by rw [ddp, if_neg h]

set_option maxRecDepth 100000 in
set_option maxHeartbeats 800000 in
theorem of_any (ao : Option Addr) (n cap : Nat) (l : List Str) (w : World) (R : Rd w (.slice ao n cap) (ss l)) (hl : l.length ≤ big) :
    Calls Try.prog 17 #[.slice ao n cap] w fun e w' => ∃ xo xc, e = .returned (.slice xo (setOf l).length xc) ∧ Ow 9 w.heap.size w w' (.slice xo (setOf l).length xc) (ss (setOf l)) := by
  have hn := (rds_open R).1
  have CL := hid_of (fun w (R : Rd w (.slice ao n cap) (ss l)) => clone_any ao n cap l w R hl)
  have HR := hid_of R
  have HN := hid_of hn
  have HL := hid_of hl
  obtain ⟨so, hso⟩ : ∃ so, so = setOf l := ⟨_, rfl⟩
  rw [← hso]
  have HSO := hid_of hso
  by_cases h0 : n = 0
  · have HE : Hid (l = []) := hid_of (List.eq_nil_of_length_eq_zero (by omega))
    have HS0 : Hid (so = []) := hid_of (by rw [hso, HE.out]; rfl)
    subst h0
    clear R hn hl hso
    go_enter Try.func17, Try.ntmps17
    go_wp2_with (first
      | (go_at_call 41; ((with_reducible refine (CL.out _ HR.out).mono ?_); (rintro e w1 ⟨xo1, xc1, rfl, h1⟩; have O1 := hid_of h1; clear h1)))
      | (go_at_call 42; ((with_reducible refine (sort_none xo1 xc1 w1).mono ?_); (rintro e w2 ⟨rfl, rfl⟩))))
    go_loopw [4, 5, 6, 13] (fun sv av bv iv wr => ∃ a b : Value, sv = .slice none 0 0 ∧ av = a ∧ bv = b ∧ iv = .int .i64 0 ∧ w1 = wr) (fun _ _ _ _ _ => 0)
    case atStart => exact ⟨_, _, rfl, rfl, rfl, rfl, rfl⟩
    case round =>
      obtain ⟨a, b, rfl, rfl, rfl, rfl, rfl⟩ := hrel
      go_wp2
      go_ret
      exact ⟨none, 0, by rw [HS0.out]; rfl, by rw [HS0.out]; exact ow_keep O1.out.bel⟩
  · have CN := hid_of (fun w (R : Rd w (.slice ao n cap) (ss l)) => clone_ne ao n cap l w R hl (by omega))
    have ST := hid_of (fun g xc w1 (H : Ow 9 w.heap.size w w1 (.slice (some ⟨g, 0, none⟩) n xc) (ss l)) => sort_any g n xc w.heap.size l w w1 H hl)
    obtain ⟨a, ha⟩ : ∃ a, a = srt l := ⟨_, rfl⟩
    rw [← ha] at ST
    have HA := hid_of ha
    have hal : Hid (a.length = n) := hid_of (by rw [ha, srt_length, hn])
    have HN0 : Hid (n ≠ 0) := hid_of h0
    have hn9 : n ≤ 1000000 := by unfold big at hl; omega
    clear R hl hso ha hn h0 CL
    go_enter Try.func17, Try.ntmps17
    go_wp2_with (first
      | (go_at_call 41; ((with_reducible refine (CN.out _ HR.out).mono ?_); (rintro e w1 ⟨g, xc1, rfl, h1⟩; have O1 := hid_of h1; clear h1)))
      | (go_at_call 42; ((with_reducible refine (ST.out g xc1 w1 O1.out).mono ?_); (rintro e w2 ⟨rfl, h2, h3⟩; have R2 := hid_of h2; have B2 := hid_of h3; clear h2 h3))))
    obtain ⟨hc0, hc1, hc2, hc3⟩ := rds_open R2.out
    clear hc0
    obtain ⟨g2, o2, e2, hg, hc⟩ := hc3.resolve_left (fun e => by have h1 := hal.out; have h2 := (rds_open R2.out).1; rw [e] at h1; have := HN0.out; simp at h1; omega)
    simp only [Option.some.injEq, Addr.mk.injEq] at e2
    obtain ⟨rfl, rfl, e3⟩ := e2
    clear e3
    have HC := hid_of hc
    clear hc hc3
    go_loopw [4, 5, 6, 13] (fun sv av bv iv wr => ∃ (k : Nat) (xo : Option Addr) (xc : Nat) (u v : Value), k ≤ n ∧ av = u ∧ bv = v ∧ iv = .int .i64 k ∧ sv = .slice xo (ddp a k).length xc ∧ Hid (Ow 9 w2.heap.size w2 wr (.slice xo (ddp a k).length xc) (ss (ddp a k)))) (fun _ _ _ iv _ => n - (intOf iv).toNat)
    case atStart => exact ⟨0, none, 0, _, _, Nat.zero_le _, rfl, rfl, rfl, rfl, hid_of (ow_nil _ _)⟩
    case round =>
      obtain ⟨k, xo, xc, u, v, hk, rfl, rfl, rfl, rfl, how⟩ := hrel
      by_cases hlt : k < n
      · have hd : decide (k < n) = true := by simp; omega
        have hkl : Hid (k < a.length) := hid_of (by have := hal.out; omega)
        obtain ⟨bk, hbk⟩ : ∃ b, b = ba (a[k]'hkl.out) := ⟨_, rfl⟩
        have c1 := (how.out.bel.cell (p := ⟨g, 0 + k, none⟩) hg).trans (HC.out k _ (List.getElem?_eq_getElem hkl.out))
        rw [← hbk, Nat.zero_add] at c1
        have HBK := hid_of hbk
        have HDL : Hid ((ddp a k).length ≤ 1000000) := hid_of (by have := ddp_len_le a k; omega)
        obtain ⟨dk, hdk⟩ : ∃ d, d = ddp a k := ⟨_, rfl⟩
        rw [← hdk] at how HDL ⊢
        have HDK := hid_of hdk
        have R1 : Hid (Rd (wr.alloc (.cells #[.string bk] 9)) (.slice (some ⟨wr.heap.size, 0, none⟩) 1 1) (ss [a[k]'hkl.out])) := hid_of (by rw [hbk]; exact rd_new rfl rfl (by simp [ss]))
        by_cases hc : k = 0 ∨ a.getD (k - 1) [] < a.getD k []
        · have STEP : Hid (ddp a (k + 1) = dk ++ [a[k]'hkl.out]) := hid_of (by rw [ddp_yes hc, ← HDK.out, getD_of hkl.out])
          by_cases h0 : k = 0
          · have t0 : ((k : Int) == 0) = true := by simp; omega
            have t0' : (k == 0) = true := by simp; omega
            clear hbk hdk hc h0
            go_wp2_with (at_builtin; ((refine wpList_app strsE rfl _ _ rfl (v := .slice xo dk.length xc) rfl (how.out.alloc _) (vx := .slice (some ⟨wr.heap.size, 0, none⟩) 1 1) rfl R1.out (ss_one _) (by rw [ss_length, ss_len1]; have := HDL.out; omega) (by rw [ss_length, ss_len1]; have := HDL.out; omega) ?_); intro xo3 n3 c3 w3 hn3 h3; have X3 : Hid (n3 = (dk ++ [a[k]'hkl.out]).length ∧ Ow 9 w2.heap.size w2 w3 (.slice xo3 n3 c3) (ss (dk ++ [a[k]'hkl.out]))) := hid_of ⟨by rw [hn3, ss_length, ss_len1]; simp, by rw [ss_append]; exact h3⟩; clear h3 hn3))
            go_roundw
            case rel => exact ⟨k + 1, xo3, c3, _, _, by omega, rfl, rfl, by go_num, by rw [STEP.out, X3.out.1], hid_of (by rw [STEP.out, ← X3.out.1]; exact X3.out.2)⟩
            case measure => simp [intOf]; omega
          · have t0 : ((k : Int) == 0) = false := by simp; omega
            have t0' : (k == 0) = false := by simp; omega
            have hpl : Hid (k - 1 < a.length) := hid_of (by have := hkl.out; omega)
            obtain ⟨bp, hbp⟩ : ∃ b, b = ba (a[k - 1]'hpl.out) := ⟨_, rfl⟩
            have c2 := (how.out.bel.cell (p := ⟨g, 0 + (k - 1), none⟩) hg).trans (HC.out (k - 1) _ (List.getElem?_eq_getElem hpl.out))
            rw [← hbp, Nat.zero_add] at c2
            have t1 := lt_t hbp hbk (by rw [← getD_of hpl.out, ← getD_of hkl.out]; exact hc.resolve_left h0)
            have k1 : 1 ≤ k := by omega
            clear hbk hdk hc h0 hbp
            go_wp2_with (at_builtin; ((refine wpList_app strsE rfl _ _ rfl (v := .slice xo dk.length xc) rfl (how.out.alloc _) (vx := .slice (some ⟨wr.heap.size, 0, none⟩) 1 1) rfl R1.out (ss_one _) (by rw [ss_length, ss_len1]; have := HDL.out; omega) (by rw [ss_length, ss_len1]; have := HDL.out; omega) ?_); intro xo3 n3 c3 w3 hn3 h3; have X3 : Hid (n3 = (dk ++ [a[k]'hkl.out]).length ∧ Ow 9 w2.heap.size w2 w3 (.slice xo3 n3 c3) (ss (dk ++ [a[k]'hkl.out]))) := hid_of ⟨by rw [hn3, ss_length, ss_len1]; simp, by rw [ss_append]; exact h3⟩; clear h3 hn3))
            go_roundw
            case rel => exact ⟨k + 1, xo3, c3, _, _, by omega, rfl, rfl, by go_num, by rw [STEP.out, X3.out.1], hid_of (by rw [STEP.out, ← X3.out.1]; exact X3.out.2)⟩
            case measure => simp [intOf]; omega
        · have h0 : k ≠ 0 := fun e => hc (.inl e)
          have STEP : Hid (ddp a (k + 1) = dk) := hid_of (by rw [ddp_no hc, ← HDK.out])
          have t0 : ((k : Int) == 0) = false := by simp; omega
          have t0' : (k == 0) = false := by simp; omega
          have hpl : Hid (k - 1 < a.length) := hid_of (by have := hkl.out; omega)
          obtain ⟨bp, hbp⟩ : ∃ b, b = ba (a[k - 1]'hpl.out) := ⟨_, rfl⟩
          have c2 := (how.out.bel.cell (p := ⟨g, 0 + (k - 1), none⟩) hg).trans (HC.out (k - 1) _ (List.getElem?_eq_getElem hpl.out))
          rw [← hbp, Nat.zero_add] at c2
          have t1 := lt_f hbp hbk (by rw [← getD_of hpl.out, ← getD_of hkl.out]; exact fun h => hc (.inr h))
          have k1 : 1 ≤ k := by omega
          clear hbk hdk hc h0 hbp
          go_wp2
          go_roundw
          case rel => exact ⟨k + 1, xo, xc, _, _, by omega, rfl, rfl, by go_num, by rw [STEP.out], hid_of (by rw [STEP.out]; exact how.out)⟩
          case measure => simp [intOf]; omega
      · obtain rfl : k = n := by omega
        have hd : decide (k < k) = false := by simp
        have HF : Hid (ddp a k = so) := hid_of (by rw [HSO.out, setOf, ← HA.out, ← HN.out])
        go_wp2
        go_ret
        exact ⟨xo, xc, by rw [HF.out] <;> rfl, by rw [← HF.out]; exact how.out.start (Nat.le_refl _) B2.out B2.out.size⟩
end Go.Proofs.Ytpbjnbceloibnaa
