/- The reference: integers. Bounds on sizes alone. -/
import Derived.Test.YtdmjlmlmdllhgaaDoorLexRin
import Derived.Test.YtdmjlmlmdllhgaaDoorLexInt
namespace Go.Proofs.YtdmjlmlmdllhgaaDoor
open Go.RowKit

/-- What the reference's number stands for. -/
def NR (n m : Nat) : Prop := (n ≤ 1000000000000000 ∧ n = m) ∨ (1000000000000000 < n ∧ n ≤ 10000000000000009 ∧ 1000000000000000 < m)
theorem numS_snoc {s : ByteArray} {j k : Nat} (hjk : j ≤ k) (hk : k < s.size) : numS (s.extract j (k + 1)) = 10 * numS (s.extract j k) + ((s[k]).toNat - 48) := by
  have e : ∀ m, (s.extract j m).data.toList = (s.data.toList.take m).drop j := fun m => by simp [List.drop_take]
  unfold numS numF
  rw [e, e, List.take_succ_eq_append_getElem (by simpa using hk), List.drop_append_of_le_length (by simp; omega), List.foldl_append]
  rfl
theorem numS_nil (s : ByteArray) (j : Nat) : numS (s.extract j j) = 0 := by
  unfold numS
  rw [show (s.extract j j).data.toList = [] by simp]
  rfl
theorem NR.le {n m : Nat} (h : NR n m) : n ≤ 10000000000000009 := by rcases h with h | h <;> omega
theorem NR.step {n m d : Nat} (h : NR n m) (hn : n ≤ 1000000000000000) (hd : d ≤ 9) : NR (10 * n + d) (10 * m + d) := by
  rcases h with h | h
  · by_cases h2 : 10 * n + d ≤ 1000000000000000
    · exact .inl ⟨h2, by omega⟩
    · exact .inr ⟨by omega, by omega, by omega⟩
  · omega
theorem NR.stay {n m d : Nat} (h : NR n m) (hn : 1000000000000000 < n) : NR n (10 * m + d) := by
  rcases h with h | h
  · omega
  · exact .inr ⟨h.1, h.2.1, by omega⟩
theorem NR.ok {n m : Nat} (h : NR n m) (hn : n ≤ 1000000000000000) : ¬ 1000000000000000 < m ∧ n = m := by rcases h with h | h <;> omega
theorem NR.big {n m : Nat} (h : NR n m) (hn : 1000000000000000 < n) : 1000000000000000 < m := by rcases h with h | h <;> omega
set_option maxRecDepth 100000 in
set_option maxHeartbeats 1600000 in
theorem qinteger_any (s : ByteArray) (j : Nat) (w : World) (hs : s.size ≤ 1000000) (hj : j < s.size) (hdg : dig (gt s j) = true) :
    Calls Tryd.prog 48 #[.string s, .int .i64 j] w (NexP (intF s j) j w) := by
  have ZA : Hid (((w.alloc (.cells #[.int .i64 0, .string ⟨#[]⟩, .int .i64 0, .int .i64 0] 25)).alloc (.cells #[.int .i64 0, .int .i64 0] 28)).heap[w.heap.size]? = some (.cells #[.int .i64 0, .string ⟨#[]⟩, .int .i64 0, .int .i64 0] 25 (0, 0))) := hid_of (two_a _ _ _)
  have ZB : Hid (((w.alloc (.cells #[.int .i64 0, .string ⟨#[]⟩, .int .i64 0, .int .i64 0] 25)).alloc (.cells #[.int .i64 0, .int .i64 0] 28)).heap[w.heap.size + 1]? = some (.cells #[.int .i64 0, .int .i64 0] 28 (0, 0))) := hid_of (two_b _ _ _)
  have ZL : Hid (w.heap.size + 1 < ((w.alloc (.cells #[.int .i64 0, .string ⟨#[]⟩, .int .i64 0, .int .i64 0] 25)).alloc (.cells #[.int .i64 0, .int .i64 0] 28)).heap.size) := hid_of (by simp)
  have ZW : Hid (Below w.heap.size w ((w.alloc (.cells #[.int .i64 0, .string ⟨#[]⟩, .int .i64 0, .int .i64 0] 25)).alloc (.cells #[.int .i64 0, .int .i64 0] 28))) := hid_of (bel_two _ _ _)
  have ZN : Hid (∀ w1, Below ((w.alloc (.cells #[.int .i64 0, .string ⟨#[]⟩, .int .i64 0, .int .i64 0] 25)).alloc (.cells #[.int .i64 0, .int .i64 0] 28)).heap.size ((w.alloc (.cells #[.int .i64 0, .string ⟨#[]⟩, .int .i64 0, .int .i64 0] 25)).alloc (.cells #[.int .i64 0, .int .i64 0] 28)) w1 → w1.heap[w.heap.size]? = some (.cells #[.int .i64 0, .string ⟨#[]⟩, .int .i64 0, .int .i64 0] 25 (0, 0)) ∧ w1.heap[w.heap.size + 1]? = some (.cells #[.int .i64 0, .int .i64 0] 28 (0, 0)) ∧ Below w.heap.size w w1) := hid_of (fun w1 h => ⟨(h.block _ (Nat.lt_of_succ_lt ZL.out)).trans ZA.out, (h.block _ ZL.out).trans ZB.out, ZW.out.trans (h.mono ZW.out.size)⟩)
  have HI1 := hid_of infoTok
  have HI2 := hid_of infoFlt
  obtain ⟨r, hr⟩ : ∃ r, r = de s j := ⟨_, rfl⟩
  have HR : Hid (runF dig s j = r) := hid_of hr.symm
  have hjr : j < r := by rw [hr]; exact run_gt hdg hj
  have hrs : r ≤ s.size := by rw [hr]; exact run_le (by omega)
  obtain ⟨g, hg⟩ : ∃ g, g = intF s j := ⟨_, rfl⟩
  rw [← hg]
  obtain ⟨y, hy⟩ : ∃ y : Int, y = ((s[j]).toNat : Int) := ⟨_, rfl⟩
  have hys : ((s[j]).toNat : Int) = y := hy.symm
  have HG : Hid (g = if y = 48 ∧ 1 < r - j then bad 2 else if 1000000000000000 < numS (s.extract j r) then bad 5 else ⟨3, ⟨#[]⟩, numS (s.extract j r), r, 0⟩) := hid_of (by rw [hg, intF, ← hr, gt_lt hj, hy])
  have HJR := hid_of hjr
  have HRS := hid_of hrs
  have HS := hid_of hs
  have hj0 : (0 : Int) ≤ (j : Int) := by omega
  have hjs : (j : Int) < (s.size : Int) := by omega
  have hss : (s.size : Int) ≤ 1000000 := by omega
  clear hr hy hg hs hdg hjr hrs
  go_enter Tryd.func48, Tryd.ntmps48
  go_wp2
  go_loop [7, 8] (fun ev nv => ∃ k n : Nat, ev = .int .i64 k ∧ nv = .int .i64 n ∧ Hid (j ≤ k) ∧ Hid (k ≤ s.size) ∧ Hid (runF dig s k = r) ∧ n ≤ 10000000000000009 ∧ Hid (NR n (numS (s.extract j k)))) (fun ev _ => s.size - (intOf ev).toNat)
  case atStart => exact ⟨j, 0, rfl, rfl, hid_of (Nat.le_refl _), hid_of (Nat.le_of_lt hj), HR, by omega, hid_of (by rw [numS_nil]; exact .inl ⟨by omega, rfl⟩)⟩
  case round =>
    obtain ⟨k, n, rfl, rfl, hjk, hks, hrun, hn9, hnr⟩ := hrel
    by_cases hlt : k < s.size
    · have d1 : decide (k < s.size) = true := decide_eq_true hlt
      have hlt' : (k : Int) < (s.size : Int) := by omega
      obtain ⟨x, hx⟩ : ∃ x : Int, x = ((s[k]).toNat : Int) := ⟨_, rfl⟩
      have hxs : ((s[k]).toNat : Int) = x := hx.symm
      have HX : Hid (gt s k = x) := hid_of (by rw [gt_lt hlt, hx])
      have HXN : Hid (numS (s.extract j (k + 1)) = 10 * numS (s.extract j k) + (x.toNat - 48)) := hid_of (by rw [numS_snoc hjk.out hlt, hx]; rfl)
      obtain ⟨q, hq⟩ : ∃ q, q = dig x := ⟨_, rfl⟩
      have IND : Hid (∀ w, Calls Tryd.prog 47 #[.int .u8 x] w fun e w' => e = .returned (.bool q) ∧ w = w') := hid_of (fun w => by rw [hq]; exact (qdigit_any x w).mono fun _ _ h => ⟨h.1, h.2.symm⟩)
      have HQ := hid_of hq
      have HLT := hid_of hlt
      clear hx hq
      cases q
      · have ST : Hid (k = r) := hid_of (by rw [← hrun.out]; exact (runF_stop (by rw [HX.out]; exact HQ.out.symm)).symm)
        have hkr := ST.out
        have hjk2 := HJR.out
        by_cases hA : y = 48 ∧ 1 < r - j
        · have GE : Hid (g = bad 2) := hid_of (by rw [HG.out, if_pos hA])
          have dA : (y == 48) = true := by rw [hA.1]; rfl
          have dB : decide ((k : Int) - (j : Int) > 1) = true := decide_eq_true (by omega)
          have dC : (1 : Int) < (k : Int) - (j : Int) := by omega
          clear hkr hjk2 hA
          go_wp2_with (first
            | (go_at_call 47; ((with_reducible refine (IND.out _).mono ?_); (rintro e w' ⟨rfl, rfl⟩)))
            | (go_at_call 33; ((with_reducible refine (qfault_any _ _ _).mono ?_); (rintro e w1 ⟨rfl, h1⟩; have B1 := hid_of (h1); clear h1; obtain ⟨ra, rb, rc⟩ := ZN.out _ B1.out; have WA := hid_of ra; have WB := hid_of rb; have LB := hid_of rc; obtain ⟨c0, c1, c2, c3, f0, f1, f2, f3⟩ := row4 ra; obtain ⟨e0, e1, g0, g1⟩ := row2 rb; clear ra rb rc))))
          rw [set4 WA.out, set2 ((setRow_other _ _ _ _ (by omega)).trans WB.out)]
          obtain ⟨q1, q2, q3⟩ := nex_end (a := #[.int .i64 0, .string ⟨#[]⟩, .int .i64 0, .int .i64 0]) (b := #[.int .i64 2, .int .i64 j]) LB.out WA.out WB.out
          exact bodyPost_ret (res_ctc (cs := #[.int .i64 0, .string ⟨#[]⟩, .int .i64 0, .int .i64 0]) (cs2 := #[.int .i64 2, .int .i64 j]) rfl w.heap.size (w.heap.size + 1) rfl rfl q2 q3 Tryd.underlying25 rfl HI1.out Tryd.underlying28 rfl HI2.out) rfl ⟨fun h => (by rw [GE.out] at h; cases h), fun _ => (by rw [GE.out] <;> rfl), q1⟩
        · have HG2 : Hid (g = if 1000000000000000 < numS (s.extract j r) then bad 5 else ⟨3, ⟨#[]⟩, numS (s.extract j r), r, 0⟩) := hid_of (by rw [HG.out, if_neg hA])
          have HNR : Hid (NR n (numS (s.extract j r))) := hid_of (by rw [← hkr]; exact hnr.out)
          by_cases hn : n ≤ 1000000000000000
          · have GE : Hid (g = ⟨3, ⟨#[]⟩, n, k, 0⟩) := hid_of (by have h1 := HNR.out.ok hn; rw [HG2.out, if_neg h1.1, ← h1.2, hkr])
            have d5 : decide ((n : Int) > 1000000000000000) = false := decide_eq_false (by omega)
            have hn2 : (n : Int) ≤ 1000000000000000 := by omega
            by_cases h48 : y = 48
            · have dA : (y == 48) = true := by rw [h48]; rfl
              have dB : decide ((k : Int) - (j : Int) > 1) = false := decide_eq_false (by omega)
              have dC : (k : Int) - (j : Int) ≤ 1 := by omega
              clear hkr hjk2 hA hn h48
              go_wp2_with (go_at_call 47; ((with_reducible refine (IND.out _).mono ?_); (rintro e w' ⟨rfl, rfl⟩)))
              refine bodyPost_ret (res_ctc (cs := #[.int .i64 3, .string ⟨#[]⟩, .int .i64 n, .int .i64 j]) (cs2 := #[.int .i64 0, .int .i64 0]) rfl w.heap.size (w.heap.size + 1) rfl rfl (two_a _ _ _) (two_b _ _ _) Tryd.underlying25 rfl HI1.out Tryd.underlying28 rfl HI2.out) rfl ⟨fun _ => by rw [GE.out] <;> rfl, fun h => absurd (by rw [GE.out] <;> rfl) h, ?_⟩
              exact bel_two _ _ _
            · have dA : (y == 48) = false := by simpa using h48
              clear hkr hjk2 hA hn h48
              go_wp2_with (go_at_call 47; ((with_reducible refine (IND.out _).mono ?_); (rintro e w' ⟨rfl, rfl⟩)))
              refine bodyPost_ret (res_ctc (cs := #[.int .i64 3, .string ⟨#[]⟩, .int .i64 n, .int .i64 j]) (cs2 := #[.int .i64 0, .int .i64 0]) rfl w.heap.size (w.heap.size + 1) rfl rfl (two_a _ _ _) (two_b _ _ _) Tryd.underlying25 rfl HI1.out Tryd.underlying28 rfl HI2.out) rfl ⟨fun _ => by rw [GE.out] <;> rfl, fun h => absurd (by rw [GE.out] <;> rfl) h, ?_⟩
              exact bel_two _ _ _
          · have GE : Hid (g = bad 5) := hid_of (by rw [HG2.out, if_pos (HNR.out.big (by omega))])
            have d5 : decide ((n : Int) > 1000000000000000) = true := decide_eq_true (by omega)
            have hn2 : 1000000000000000 < (n : Int) := by omega
            by_cases h48 : y = 48
            · have dA : (y == 48) = true := by rw [h48]; rfl
              have dB : decide ((k : Int) - (j : Int) > 1) = false := decide_eq_false (by omega)
              have dC : (k : Int) - (j : Int) ≤ 1 := by omega
              clear hkr hjk2 hA hn h48
              go_wp2_with (first
            | (go_at_call 47; ((with_reducible refine (IND.out _).mono ?_); (rintro e w' ⟨rfl, rfl⟩)))
            | (go_at_call 33; ((with_reducible refine (qfault_any _ _ _).mono ?_); (rintro e w1 ⟨rfl, h1⟩; have B1 := hid_of (h1); clear h1; obtain ⟨ra, rb, rc⟩ := ZN.out _ B1.out; have WA := hid_of ra; have WB := hid_of rb; have LB := hid_of rc; obtain ⟨c0, c1, c2, c3, f0, f1, f2, f3⟩ := row4 ra; obtain ⟨e0, e1, g0, g1⟩ := row2 rb; clear ra rb rc))))
              rw [set4 WA.out, set2 ((setRow_other _ _ _ _ (by omega)).trans WB.out)]
              obtain ⟨q1, q2, q3⟩ := nex_end (a := #[.int .i64 0, .string ⟨#[]⟩, .int .i64 0, .int .i64 0]) (b := #[.int .i64 5, .int .i64 j]) LB.out WA.out WB.out
              exact bodyPost_ret (res_ctc (cs := #[.int .i64 0, .string ⟨#[]⟩, .int .i64 0, .int .i64 0]) (cs2 := #[.int .i64 5, .int .i64 j]) rfl w.heap.size (w.heap.size + 1) rfl rfl q2 q3 Tryd.underlying25 rfl HI1.out Tryd.underlying28 rfl HI2.out) rfl ⟨fun h => (by rw [GE.out] at h; cases h), fun _ => (by rw [GE.out] <;> rfl), q1⟩
            · have dA : (y == 48) = false := by simpa using h48
              clear hkr hjk2 hA hn h48
              go_wp2_with (first
            | (go_at_call 47; ((with_reducible refine (IND.out _).mono ?_); (rintro e w' ⟨rfl, rfl⟩)))
            | (go_at_call 33; ((with_reducible refine (qfault_any _ _ _).mono ?_); (rintro e w1 ⟨rfl, h1⟩; have B1 := hid_of (h1); clear h1; obtain ⟨ra, rb, rc⟩ := ZN.out _ B1.out; have WA := hid_of ra; have WB := hid_of rb; have LB := hid_of rc; obtain ⟨c0, c1, c2, c3, f0, f1, f2, f3⟩ := row4 ra; obtain ⟨e0, e1, g0, g1⟩ := row2 rb; clear ra rb rc))))
              rw [set4 WA.out, set2 ((setRow_other _ _ _ _ (by omega)).trans WB.out)]
              obtain ⟨q1, q2, q3⟩ := nex_end (a := #[.int .i64 0, .string ⟨#[]⟩, .int .i64 0, .int .i64 0]) (b := #[.int .i64 5, .int .i64 j]) LB.out WA.out WB.out
              exact bodyPost_ret (res_ctc (cs := #[.int .i64 0, .string ⟨#[]⟩, .int .i64 0, .int .i64 0]) (cs2 := #[.int .i64 5, .int .i64 j]) rfl w.heap.size (w.heap.size + 1) rfl rfl q2 q3 Tryd.underlying25 rfl HI1.out Tryd.underlying28 rfl HI2.out) rfl ⟨fun h => (by rw [GE.out] at h; cases h), fun _ => (by rw [GE.out] <;> rfl), q1⟩
      · have ST : Hid (runF dig s (k + 1) = r) := hid_of (by rw [← hrun.out]; exact (runF_go HLT.out (by rw [HX.out]; exact HQ.out.symm)).symm)
        have hx1 : 48 ≤ x ∧ x ≤ 57 := by have h1 := HQ.out.symm; simp only [dig, Bool.and_eq_true, decide_eq_true_eq] at h1; exact h1
        have hx2 : 48 ≤ x := hx1.1
        have hx3 : x ≤ 57 := hx1.2
        clear hx1
        by_cases hn : n ≤ 1000000000000000
        · have d2 : decide ((n : Int) ≤ 1000000000000000) = true := decide_eq_true (by omega)
          have NX := hid_of (hnr.out.step hn (d := x.toNat - 48) (by omega))
          have HV : Hid (((10 * n + (x.toNat - 48) : Nat) : Int) = 10 * (n : Int) + (x - 48)) := hid_of (by omega)
          have hn2 : (n : Int) ≤ 1000000000000000 := by omega
          have HN9 : Hid (10 * n + (x.toNat - 48) ≤ 10000000000000009) := hid_of (by omega)
          clear hn
          go_wp2_with (go_at_call 47; ((with_reducible refine (IND.out _).mono ?_); (rintro e w' ⟨rfl, rfl⟩)))
          go_round
          case rel => exact ⟨k + 1, 10 * n + (x.toNat - 48), by go_num, by rw [HV.out], hid_of (by have := hjk.out; omega), hid_of (by have := HLT.out; omega), ST, HN9.out, hid_of (by rw [HXN.out]; exact NX.out)⟩
          case measure => have := HLT.out; simp [intOf]; omega
        · have d2 : decide ((n : Int) ≤ 1000000000000000) = false := decide_eq_false (by omega)
          have NX := hid_of (hnr.out.stay (d := x.toNat - 48) (by omega))
          have hn2 : 1000000000000000 < (n : Int) := by omega
          clear hn
          go_wp2_with (go_at_call 47; ((with_reducible refine (IND.out _).mono ?_); (rintro e w' ⟨rfl, rfl⟩)))
          go_round
          case rel => exact ⟨k + 1, n, by go_num, rfl, hid_of (by have := hjk.out; omega), hid_of (by have := HLT.out; omega), ST, hn9, hid_of (by rw [HXN.out]; exact NX.out)⟩
          case measure => have := HLT.out; simp [intOf]; omega
    · have d1 : decide (k < s.size) = false := decide_eq_false hlt
      have ST : Hid (k = r) := hid_of (by rw [← hrun.out]; exact (runF_end hlt).symm)
      have hk1 : (k : Int) ≤ (s.size : Int) := by have := hks.out; omega
      have hkr := ST.out
      have hjk2 := HJR.out
      by_cases hA : y = 48 ∧ 1 < r - j
      · have GE : Hid (g = bad 2) := hid_of (by rw [HG.out, if_pos hA])
        have dA : (y == 48) = true := by rw [hA.1]; rfl
        have dB : decide ((k : Int) - (j : Int) > 1) = true := decide_eq_true (by omega)
        have dC : (1 : Int) < (k : Int) - (j : Int) := by omega
        clear hkr hjk2 hA
        go_wp2_with (go_at_call 33; ((with_reducible refine (qfault_any _ _ _).mono ?_); (rintro e w1 ⟨rfl, h1⟩; have B1 := hid_of (h1); clear h1; obtain ⟨ra, rb, rc⟩ := ZN.out _ B1.out; have WA := hid_of ra; have WB := hid_of rb; have LB := hid_of rc; obtain ⟨c0, c1, c2, c3, f0, f1, f2, f3⟩ := row4 ra; obtain ⟨e0, e1, g0, g1⟩ := row2 rb; clear ra rb rc)))
        rw [set4 WA.out, set2 ((setRow_other _ _ _ _ (by omega)).trans WB.out)]
        obtain ⟨q1, q2, q3⟩ := nex_end (a := #[.int .i64 0, .string ⟨#[]⟩, .int .i64 0, .int .i64 0]) (b := #[.int .i64 2, .int .i64 j]) LB.out WA.out WB.out
        exact bodyPost_ret (res_ctc (cs := #[.int .i64 0, .string ⟨#[]⟩, .int .i64 0, .int .i64 0]) (cs2 := #[.int .i64 2, .int .i64 j]) rfl w.heap.size (w.heap.size + 1) rfl rfl q2 q3 Tryd.underlying25 rfl HI1.out Tryd.underlying28 rfl HI2.out) rfl ⟨fun h => (by rw [GE.out] at h; cases h), fun _ => (by rw [GE.out] <;> rfl), q1⟩
      · have HG2 : Hid (g = if 1000000000000000 < numS (s.extract j r) then bad 5 else ⟨3, ⟨#[]⟩, numS (s.extract j r), r, 0⟩) := hid_of (by rw [HG.out, if_neg hA])
        have HNR : Hid (NR n (numS (s.extract j r))) := hid_of (by rw [← hkr]; exact hnr.out)
        by_cases hn : n ≤ 1000000000000000
        · have GE : Hid (g = ⟨3, ⟨#[]⟩, n, k, 0⟩) := hid_of (by have h1 := HNR.out.ok hn; rw [HG2.out, if_neg h1.1, ← h1.2, hkr])
          have d5 : decide ((n : Int) > 1000000000000000) = false := decide_eq_false (by omega)
          have hn2 : (n : Int) ≤ 1000000000000000 := by omega
          by_cases h48 : y = 48
          · have dA : (y == 48) = true := by rw [h48]; rfl
            have dB : decide ((k : Int) - (j : Int) > 1) = false := decide_eq_false (by omega)
            have dC : (k : Int) - (j : Int) ≤ 1 := by omega
            clear hkr hjk2 hA hn h48
            go_wp2
            refine bodyPost_ret (res_ctc (cs := #[.int .i64 3, .string ⟨#[]⟩, .int .i64 n, .int .i64 j]) (cs2 := #[.int .i64 0, .int .i64 0]) rfl w.heap.size (w.heap.size + 1) rfl rfl (two_a _ _ _) (two_b _ _ _) Tryd.underlying25 rfl HI1.out Tryd.underlying28 rfl HI2.out) rfl ⟨fun _ => by rw [GE.out] <;> rfl, fun h => absurd (by rw [GE.out] <;> rfl) h, ?_⟩
            exact bel_two _ _ _
          · have dA : (y == 48) = false := by simpa using h48
            clear hkr hjk2 hA hn h48
            go_wp2
            refine bodyPost_ret (res_ctc (cs := #[.int .i64 3, .string ⟨#[]⟩, .int .i64 n, .int .i64 j]) (cs2 := #[.int .i64 0, .int .i64 0]) rfl w.heap.size (w.heap.size + 1) rfl rfl (two_a _ _ _) (two_b _ _ _) Tryd.underlying25 rfl HI1.out Tryd.underlying28 rfl HI2.out) rfl ⟨fun _ => by rw [GE.out] <;> rfl, fun h => absurd (by rw [GE.out] <;> rfl) h, ?_⟩
            exact bel_two _ _ _
        · have GE : Hid (g = bad 5) := hid_of (by rw [HG2.out, if_pos (HNR.out.big (by omega))])
          have d5 : decide ((n : Int) > 1000000000000000) = true := decide_eq_true (by omega)
          have hn2 : 1000000000000000 < (n : Int) := by omega
          by_cases h48 : y = 48
          · have dA : (y == 48) = true := by rw [h48]; rfl
            have dB : decide ((k : Int) - (j : Int) > 1) = false := decide_eq_false (by omega)
            have dC : (k : Int) - (j : Int) ≤ 1 := by omega
            clear hkr hjk2 hA hn h48
            go_wp2_with (go_at_call 33; ((with_reducible refine (qfault_any _ _ _).mono ?_); (rintro e w1 ⟨rfl, h1⟩; have B1 := hid_of (h1); clear h1; obtain ⟨ra, rb, rc⟩ := ZN.out _ B1.out; have WA := hid_of ra; have WB := hid_of rb; have LB := hid_of rc; obtain ⟨c0, c1, c2, c3, f0, f1, f2, f3⟩ := row4 ra; obtain ⟨e0, e1, g0, g1⟩ := row2 rb; clear ra rb rc)))
            rw [set4 WA.out, set2 ((setRow_other _ _ _ _ (by omega)).trans WB.out)]
            obtain ⟨q1, q2, q3⟩ := nex_end (a := #[.int .i64 0, .string ⟨#[]⟩, .int .i64 0, .int .i64 0]) (b := #[.int .i64 5, .int .i64 j]) LB.out WA.out WB.out
            exact bodyPost_ret (res_ctc (cs := #[.int .i64 0, .string ⟨#[]⟩, .int .i64 0, .int .i64 0]) (cs2 := #[.int .i64 5, .int .i64 j]) rfl w.heap.size (w.heap.size + 1) rfl rfl q2 q3 Tryd.underlying25 rfl HI1.out Tryd.underlying28 rfl HI2.out) rfl ⟨fun h => (by rw [GE.out] at h; cases h), fun _ => (by rw [GE.out] <;> rfl), q1⟩
          · have dA : (y == 48) = false := by simpa using h48
            clear hkr hjk2 hA hn h48
            go_wp2_with (go_at_call 33; ((with_reducible refine (qfault_any _ _ _).mono ?_); (rintro e w1 ⟨rfl, h1⟩; have B1 := hid_of (h1); clear h1; obtain ⟨ra, rb, rc⟩ := ZN.out _ B1.out; have WA := hid_of ra; have WB := hid_of rb; have LB := hid_of rc; obtain ⟨c0, c1, c2, c3, f0, f1, f2, f3⟩ := row4 ra; obtain ⟨e0, e1, g0, g1⟩ := row2 rb; clear ra rb rc)))
            rw [set4 WA.out, set2 ((setRow_other _ _ _ _ (by omega)).trans WB.out)]
            obtain ⟨q1, q2, q3⟩ := nex_end (a := #[.int .i64 0, .string ⟨#[]⟩, .int .i64 0, .int .i64 0]) (b := #[.int .i64 5, .int .i64 j]) LB.out WA.out WB.out
            exact bodyPost_ret (res_ctc (cs := #[.int .i64 0, .string ⟨#[]⟩, .int .i64 0, .int .i64 0]) (cs2 := #[.int .i64 5, .int .i64 j]) rfl w.heap.size (w.heap.size + 1) rfl rfl q2 q3 Tryd.underlying25 rfl HI1.out Tryd.underlying28 rfl HI2.out) rfl ⟨fun h => (by rw [GE.out] at h; cases h), fun _ => (by rw [GE.out] <;> rfl), q1⟩
end Go.Proofs.YtdmjlmlmdllhgaaDoor
