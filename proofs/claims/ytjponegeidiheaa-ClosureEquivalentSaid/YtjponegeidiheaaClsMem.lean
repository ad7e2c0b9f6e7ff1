/- members: the set in ascending order; named: numbers as names; entails. Bounds on sizes alone. -/
import Derived.Test.YtjponegeidiheaaClsClo
import Derived.Test.YtjponegeidiheaaClsInd
namespace Go.Proofs.Ytjponegeidiheaa
open Go.RowKit

/-- The members of T below j, ascending. -/
def mems (T : List Nat) (j : Nat) : List Nat := (List.range j).filter fun i => decide (i ∈ T)
theorem mems_succ (T : List Nat) (j : Nat) : mems T (j + 1) = mems T j ++ (if j ∈ T then [j] else []) := by
  unfold mems
  rw [List.range_succ, List.filter_append]
  congr 1
  by_cases h : j ∈ T <;> simp [h]
theorem mem_mems {T : List Nat} {n i : Nat} : i ∈ mems T n ↔ i < n ∧ i ∈ T := by simp [mems]
theorem mems_length {T : List Nat} (hn : T.Nodup) (j : Nat) : (mems T j).length ≤ T.length := by
  have h1 : (mems T j).Nodup := List.Nodup.sublist List.filter_sublist List.nodup_range
  have : ∀ (A B : List Nat), A.Nodup → (∀ x ∈ A, x ∈ B) → A.length ≤ B.length := by
    intro A
    induction A with
    | nil => intro B _ _; simp
    | cons a A ih =>
      intro B hA hB
      have ⟨h1, h2⟩ := List.nodup_cons.1 hA
      have h3 := ih (B.erase a) h2 (fun x hx => (List.mem_erase_of_ne (by rintro rfl; exact h1 hx)).2 (hB x (List.mem_cons_of_mem _ hx)))
      have h4 := List.length_erase_of_mem (hB a List.mem_cons_self)
      have h5 : 0 < B.length := List.length_pos_of_mem (hB a List.mem_cons_self)
      simp only [List.length_cons]
      omega
  exact this _ _ h1 fun x hx => (mem_mems.1 hx).2

set_option maxRecDepth 100000 in
set_option maxHeartbeats 800000 in
theorem mem_any (c n k : Nat) (R : List Hrl) (lk : Nat → Nat) (T : List Nat) (V : CV) (S : Nat → Prop) (w : World) (h : CH w c n R lk (memB T) T k V S) (hn : n ≤ 1000000) :
    Calls Try.prog 49 #[.pointer (some ⟨c, 0, none⟩)] w fun e w' => ∃ ao cap, e = .returned (.slice ao (mems T n).length cap) ∧ Ow 3 w.heap.size w w' (.slice ao (mems T n).length cap) (ints (mems T n)) := by
  obtain ⟨ta, tc, htv⟩ := h.tvs
  have c5 := h.cell (j := 5) rfl
  rw [htv] at c5
  have c4 := h.cell (j := 4) rfl
  have hlen := h.len
  obtain ⟨i0, hi, hz0, hz1, hz2⟩ := info_parts intsE.info
  obtain ⟨m, hm⟩ : ∃ m, m = T.length := ⟨_, rfl⟩
  rw [← hm] at c5 hlen
  have HH : Hid (∀ w' i, Below w.heap.size w w' → i < n → w'.cell? ⟨c, 4, none⟩ = some (.slice (some ⟨V.gh, 0, none⟩) n n) ∧ w'.cell? ⟨V.gh, i, none⟩ = some (.bool (memB T i))) := hid_of (fun w' i hb hi => ⟨(h.at hb).cell (j := 4) rfl, (h.at hb).hasc hi⟩)
  have HC4 : Hid (∀ w', Below w.heap.size w w' → w'.cell? ⟨c, 4, none⟩ = some (.slice (some ⟨V.gh, 0, none⟩) n n)) := hid_of (fun w' hb => (h.at hb).cell (j := 4) rfl)
  clear h htv hm
  go_enter Try.func49, Try.ntmps49
  go_wp2_with (at_make; (refine wpList_make_own _ rfl _ _ 56 rfl w.heap.size 3 i0 (.int .i64 0) 1 Try.underlying56 hi hz0 hz1 .i64 .i64 _ m rfl rfl rfl (by rw [hz2]; omega) (by unfold maxLen; omega) (Nat.le_refl _) ?_); intro w2 hown hgrow; have HO := hid_of (ow_made hown hgrow); clear hown hgrow; have c4b := HC4.out _ HO.out.bel)
  clear c4 c5
  go_loopw [3, 4, 5, 17] (fun rv xv bv iv wr => ∃ (j l : Nat) (v u : Value) (ro : Option Addr) (rc : Nat), rv = .slice ro l rc ∧ xv = v ∧ bv = u ∧ j ≤ n ∧ iv = .int .i64 j ∧ l ≤ j ∧ Hid (l = (mems T j).length) ∧ Hid (Ow 3 w.heap.size w wr (.slice ro l rc) (ints (mems T j)))) (fun _ _ _ iv _ => n - (intOf iv).toNat)
  case atStart => exact ⟨0, 0, _, _, _, _, rfl, rfl, rfl, Nat.zero_le _, rfl, Nat.le_refl _, hid_of rfl, HO⟩
  case round =>
    obtain ⟨j, l, v, u, ro, rc, rfl, rfl, rfl, hj, rfl, hlj, hl, how⟩ := hrel
    by_cases hlt : j < n
    · have hd : decide (j < n) = true := by simp; omega
      have hc := (HH.out wr j how.out.bel hlt).2
      obtain ⟨b, hb⟩ : ∃ b, b = memB T j := ⟨_, rfl⟩
      rw [← hb] at hc
      have HB := hid_of hb
      clear hb
      cases b
      · have HE : Hid (mems T (j + 1) = mems T j) := hid_of (by rw [mems_succ, if_neg (of_decide_eq_false HB.out.symm), List.append_nil])
        go_wp2
        go_roundw
        case rel => exact ⟨j + 1, l, _, _, ro, rc, rfl, rfl, rfl, by omega, by go_num, by omega, hid_of (by rw [HE.out]; exact hl.out), hid_of (by rw [HE.out]; exact how.out)⟩
        case measure => simp [intOf]; omega
      · have HE : Hid (mems T (j + 1) = mems T j ++ [j]) := hid_of (by rw [mems_succ, if_pos (of_decide_eq_true HB.out.symm)])
        have HLL : Hid ((ints (mems T j)).length = l) := hid_of (by rw [ints_length]; exact hl.out.symm)
        go_wp2_with (at_builtin; (refine wpList_app intsE rfl (.tmp 23) (.tmp 25) rfl (v := .slice ro l rc) (l := ints (mems T j)) rfl (how.out.alloc _) (vx := .slice (some ⟨wr.heap.size, 0, none⟩) 1 1) (m := [.int .i64 (j : Int)]) rfl (rd_new rfl rfl (by simp)) (by intro u hu; rw [List.mem_singleton.1 hu]; rfl) (by rw [HLL.out]; simp only [List.length_singleton]; omega) (by rw [HLL.out]; simp only [List.length_singleton]; omega) ?_); intro ao2 n2 cap2 w4 e1 h5; have HN2 : Hid (n2 = l + 1) := hid_of (by rw [HLL.out] at e1; simpa using e1); have HO2 := hid_of h5; clear e1 h5)
        go_roundw
        case rel => exact ⟨j + 1, l + 1, _, _, ao2, cap2, by rw [HN2.out], rfl, rfl, by omega, by go_num, by omega, hid_of (by rw [HE.out, List.length_append, ← hl.out]; rfl), hid_of (by rw [HE.out, ints_append, ← HN2.out]; exact HO2.out)⟩
        case measure => simp [intOf]; omega
    · have hd : decide (j < n) = false := by simp; omega
      obtain rfl : n = j := by omega
      go_wp2
      go_ret
      exact ⟨ro, rc, by rw [← hl.out]; rfl, by rw [← hl.out]; exact how.out⟩

def nmF (U : List Str) (L : List Nat) : List Str := L.map fun i => U.getD i []
theorem nmF_snoc (U : List Str) (L : List Nat) (i : Nat) (x : Str) (h : U[i]? = some x) : nmF U (L ++ [i]) = nmF U L ++ [x] := by
  unfold nmF
  rw [List.map_append]
  simp [List.getD, h]
theorem nmF_length (U : List Str) (L : List Nat) : (nmF U L).length = L.length := by simp [nmF]
set_option maxRecDepth 100000 in
set_option maxHeartbeats 800000 in
theorem nmd_any (uo : Option Addr) (un uc : Nat) (U : List Str) (ao : Option Addr) (m cap : Nat) (L : List Nat) (w : World) (RU : Rd w (.slice uo un uc) (ss U)) (RL : Rd w (.slice ao m cap) (ints L)) (hL : ∀ i ∈ L, i < U.length) (hm : m ≤ 1000000) :
    Calls Try.prog 48 #[.slice uo un uc, .slice ao m cap] w fun e w' => ∃ ro rc, e = .returned (.slice ro m rc) ∧ Ow 9 w.heap.size w w' (.slice ro m rc) (ss (nmF U L)) := by
  obtain ⟨hun, hu1, hu2, _⟩ := rds_open RU
  have hml : m = L.length := by
    obtain ⟨_, _, e, _⟩ := RL
    simp only [Value.slice.injEq, ints_length] at e
    exact e.2.1
  have hmc : m ≤ 9223372036854775807 := by omega
  obtain ⟨i0, hi, hz0, hz1, hz2⟩ := info_parts strsE.info
  have HUN := hid_of hun
  have HML := hid_of hml
  have HR : Hid (∀ wx j, Below w.heap.size w wx → j < m → ∃ (a g o g2 o2 : Nat) (x : Str), L[j]? = some a ∧ a < un ∧ ao = some ⟨g, o, none⟩ ∧ uo = some ⟨g2, o2, none⟩ ∧ U[a]? = some x ∧ wx.cell? ⟨g, o + j, none⟩ = some (.int .i64 (a : Int)) ∧ wx.cell? ⟨g2, o2 + a, none⟩ = some (.string (ba x))) := hid_of (fun wx j hb hj => by
    obtain ⟨a, ha⟩ : ∃ a, L[j]? = some a := ⟨_, List.getElem?_eq_getElem (by omega)⟩
    have hau : a < U.length := hL a (List.mem_of_getElem? ha)
    obtain ⟨x, hx⟩ : ∃ x, U[a]? = some x := ⟨_, List.getElem?_eq_getElem hau⟩
    obtain ⟨_, _, _, q3⟩ := rds_open (RU.at hb)
    obtain ⟨ao2, cap2, e, _, _, q4⟩ := RL.at hb
    simp only [Value.slice.injEq] at e
    obtain ⟨rfl, _, rfl⟩ := e
    obtain ⟨g, o, rfl, _, hc⟩ := q4 (by rw [ints_length]; omega)
    rcases q3 with q3 | ⟨g2, o2, e2, _, hc2⟩
    · rw [q3] at hx; simp at hx
    · exact ⟨a, g, o, g2, o2, x, ha, by omega, rfl, e2, hx, hc j _ (ints_get ha), hc2 a x hx⟩)
  clear hun RU RL hL hml
  go_enter Try.func48, Try.ntmps48
  go_wp2_with (at_make; (refine wpList_make_own _ rfl _ _ 22 rfl w.heap.size 9 i0 (.string ⟨#[]⟩) 1 Try.underlying22 hi hz0 hz1 .i64 .i64 _ m rfl rfl rfl (by rw [hz2]; omega) (by unfold maxLen; omega) (Nat.le_refl _) ?_); intro w2 hown hgrow; have HO := hid_of (ow_made hown hgrow); clear hown hgrow)
  go_loopw [5, 7, 13] (fun rv xv iv wr => ∃ (j : Nat) (v : Value) (ro : Option Addr) (rc : Nat), rv = .slice ro j rc ∧ xv = v ∧ j ≤ m ∧ iv = .int .i64 j ∧ Hid (Ow 9 w.heap.size w wr (.slice ro j rc) (ss (nmF U (L.take j))))) (fun _ _ iv _ => m - (intOf iv).toNat)
  case atStart => exact ⟨0, _, _, _, rfl, rfl, Nat.zero_le _, rfl, HO⟩
  case round =>
    obtain ⟨j, v, ro, rc, rfl, rfl, hj, rfl, how⟩ := hrel
    by_cases hlt : j < m
    · have hd : decide (j < m) = true := by simp; omega
      obtain ⟨a, g, o, g2, o2, x, e1, e2, rfl, rfl, e5, c1, c2⟩ := HR.out wr j how.out.bel hlt
      have E1 := hid_of e1
      have E5 := hid_of e5
      have HLL : Hid ((ss (nmF U (L.take j))).length = j) := hid_of (by rw [ss_length, nmF_length, List.length_take]; have := HML.out; omega)
      obtain ⟨bx, hbx⟩ : ∃ b, b = ba x := ⟨_, rfl⟩
      rw [← hbx] at c2
      have HBX := hid_of hbx
      clear e1 e5 hbx
      go_wp2_with (at_builtin; (refine wpList_app strsE rfl (.tmp 17) (.tmp 22) rfl (v := .slice ro j rc) (l := ss (nmF U (L.take j))) rfl (how.out.alloc _) (vx := .slice (some ⟨wr.heap.size, 0, none⟩) 1 1) (m := [.string bx]) rfl (rd_new rfl rfl (by simp)) (by intro u hu; rw [List.mem_singleton.1 hu]; rfl) (by rw [HLL.out]; simp only [List.length_singleton]; omega) (by rw [HLL.out]; simp only [List.length_singleton]; omega) ?_); intro ao2 n2 cap2 w4 e1 h5; have HN2 : Hid (n2 = j + 1) := hid_of (by rw [HLL.out] at e1; simpa using e1); have HO2 := hid_of h5; clear e1 h5)
      go_roundw
      case rel => exact ⟨j + 1, _, ao2, cap2, by rw [HN2.out], rfl, by omega, by go_num, hid_of (by rw [take_snoc_get E1.out, nmF_snoc _ _ _ _ E5.out, ss_append, ← HN2.out]; have h5 := HO2.out; rw [HBX.out] at h5; exact h5)⟩
      case measure => simp [intOf]; omega
    · have hd : decide (j < m) = false := by simp; omega
      obtain rfl : m = j := by omega
      have HE : Hid (Ow 9 w.heap.size w wr (.slice ro m rc) (ss (nmF U L))) := hid_of (by
        have h5 := how.out
        rw [List.take_of_length_le (by have := HML.out; omega)] at h5; exact h5)
      go_wp2
      go_ret
      exact ⟨ro, rc, rfl, HE.out⟩

/-- What entails leaves. -/
def EntP (w : World) (c n : Nat) (R : List Hrl) (off : Nat → Nat) (p q : List Nat) (V : CV) (S : Nat → Prop) (e : Ending) (w' : World) : Prop :=
  ∃ b T' tv S', e = .returned (.bool b) ∧ (b = true ↔ ∀ x, x ∈ q → Der (On R off) (fun x => x ∈ p) x) ∧ CH w' c n R (lackR R off (T'.take T'.length)) (memB T') T' T'.length { V with tv := tv } S' ∧ Chg S S' w w'
set_option maxRecDepth 100000 in
set_option maxHeartbeats 800000 in
theorem ent_any (c n k : Nat) (R : List Hrl) (off : Nat → Nat) (T : List Nat) (V : CV) (S : Nat → Prop) (p q : List Nat) (pv cv : Value) (w : World) (h : CH w c n R (lackR R off (T.take k)) (memB T) T k V S) (hk : k ≤ T.length)
    (Lp : Rd w pv (ints p)) (Lq : Rd w cv (ints q)) (hpb : ∀ g, pv.ownBlock = some g → g < w.heap.size ∧ ¬ S g) (hqb : ∀ g, cv.ownBlock = some g → g < w.heap.size ∧ ¬ S g) (hpn : ∀ x ∈ p, x < n) (hqn : ∀ x ∈ q, x < n) (hn : n ≤ 1000000) (hR : ∀ i, off i ≤ 1) :
    Calls Try.prog 52 #[.pointer (some ⟨c, 0, none⟩), .agg #[pv, cv]] w (EntP w c n R off p q V S) := by
  have B0 := bel_alloc w (.cells #[pv, cv] 90)
  have hsz := h.sz
  have HCL := hid_of (clo_any c n k R off T V S p pv (w.alloc (.cells #[pv, cv] 90)) (h.at B0) hk (Lp.at B0) (fun g hg => ⟨by have := (hpb g hg).1; simp; omega, (hpb g hg).2⟩) hpn hn hR)
  obtain ⟨qo, qc, hcv, hq1, hq2, hq3⟩ := Lq
  subst hcv
  rw [ints_length] at hq1 hq3 hqb HCL B0 ⊢
  obtain ⟨m, hm⟩ : ∃ m, m = q.length := ⟨_, rfl⟩
  rw [← hm] at hq1 hq3 hqb HCL B0 ⊢
  have HM := hid_of hm
  obtain ⟨po, pl, pc, rfl⟩ : ∃ po pl pc, pv = .slice po pl pc := by obtain ⟨a, b, e, _⟩ := Lp; exact ⟨a, _, b, e⟩
  have HF : Hid (∀ w1, CloP (w.alloc (.cells #[.slice po pl pc, .slice qo m qc] 90)) c n R off p V S (.returned (.tuple #[])) w1 → w1.cell? ⟨w.heap.size, 1, none⟩ = some (.slice qo m qc) ∧ (∀ j, j < m → ∃ g o x, q[j]? = some x ∧ qo = some ⟨g, o, none⟩ ∧ w1.cell? ⟨g, o + j, none⟩ = some (.int .i64 (x : Nat)) ∧ x < n ∧ w1.cell? ⟨c, 4, none⟩ = some (.slice (some ⟨V.gh, 0, none⟩) n n) ∧
      ∃ b, w1.cell? ⟨V.gh, x, none⟩ = some (.bool b) ∧ (b = true ↔ Der (On R off) (fun x => x ∈ p) x)) ∧
      ∀ b, (b = true ↔ ∀ x, x ∈ q → Der (On R off) (fun x => x ∈ p) x) → EntP w c n R off p q V S (.returned (.bool b)) w1) := hid_of (fun w1 hi => by
    obtain ⟨_, T', tv, S', q1, q2, q3⟩ := hi
    have hbx : ¬ S w.heap.size := fun hs => by have := hsz _ hs; omega
    have hb := q2.blk (heap_alloc_new w (.cells #[.slice po pl pc, .slice qo m qc] 90)) hbx
    refine ⟨blk_cell (cs := [.slice po pl pc, .slice qo m qc]) hb rfl, fun j hj => ?_, fun b hb2 => ⟨b, T', tv, S', rfl, hb2, q1, (Chg.ofBelow B0).trans q2⟩⟩
    obtain ⟨x, hx⟩ : ∃ x, q[j]? = some x := ⟨_, List.getElem?_eq_getElem (by omega)⟩
    obtain ⟨g, o, rfl, hg, hc⟩ := hq3 (by omega)
    have hxn := hqn x (List.mem_of_getElem? hx)
    refine ⟨g, o, x, hx, rfl, ?_, hxn, q1.cell (j := 4) rfl, _, q1.hasc hxn, by rw [← q3 x]; simp [memB]⟩
    have h5 := hc j _ (ints_get hx)
    have h6 := B0.block g hg
    unfold World.cell? at h5 ⊢
    rw [q2.kept.block g (by have := B0.size; omega) (hqb g rfl).2, h6]; exact h5)
  clear h B0 hsz Lp hpb hqb hpn hqn hq3 hm hR hk
  go_enter Try.func52, Try.ntmps52
  go_wp2_with (go_at_call 47; ((with_reducible refine (HCL.out).mono ?_); (rintro e w1 h5; have h6 := h5.1; subst h6)); have HX := hid_of (HF.out w1 h5); clear h5; have x1 := HX.out.1)
  have hm2 : m ≤ 9223372036854775807 := by omega
  go_loop [6, 14] (fun xv iv => ∃ (j : Nat) (v : Value), xv = v ∧ j ≤ m ∧ iv = .int .i64 j ∧ Hid (∀ x, x ∈ q.take j → Der (On R off) (fun x => x ∈ p) x)) (fun _ iv => m - (intOf iv).toNat)
  case atStart => exact ⟨0, _, rfl, Nat.zero_le _, rfl, hid_of (by simp)⟩
  case round =>
    obtain ⟨j, v, rfl, hj, rfl, hall⟩ := hrel
    by_cases hlt : j < m
    · have hd : decide (j < m) = true := by simp; omega
      obtain ⟨g, o, x, y1, rfl, y3, y4, y5, b, y6, y7⟩ := HX.out.2.1 j hlt
      have Y1 := hid_of y1
      have Y7 := hid_of y7
      clear y1 y7
      cases b
      · have HE := hid_of (HX.out.2.2 false ⟨(fun h => by cases h), fun h => Y7.out.2 (h x (List.mem_of_getElem? Y1.out))⟩)
        go_wp2
        go_ret
        exact HE.out
      · go_wp2
        go_round
        case rel => exact ⟨j + 1, _, rfl, by omega, by go_num, hid_of (fun z hz => by
          rw [take_snoc_get Y1.out, List.mem_append, List.mem_singleton] at hz
          rcases hz with hz | rfl
          · exact hall.out z hz
          · exact Y7.out.1 rfl)⟩
        case measure => simp [intOf]; omega
    · have hd : decide (j < m) = false := by simp; omega
      have HE := hid_of (HX.out.2.2 true ⟨fun _ x hx => hall.out x (by rw [List.take_of_length_le (by have := HM.out; omega)]; exact hx), fun _ => rfl⟩)
      go_wp2
      go_ret
      exact HE.out
end Go.Proofs.Ytjponegeidiheaa
