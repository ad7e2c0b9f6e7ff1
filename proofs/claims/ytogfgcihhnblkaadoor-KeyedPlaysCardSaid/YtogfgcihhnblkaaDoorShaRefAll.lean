/- The reference's Sum is the digest; the law ShaSums. Bounds on sizes alone. -/
import Derived.Test.YtogfgcihhnblkaaDoorShaRefBlk
namespace Go.Proofs.YtogfgcihhnblkaaDoor
open Go.RowKit

theorem wordBytes_r (x : Int) : ∀ y ∈ wordBytes x, 0 ≤ y ∧ y ≤ 255 := by
  intro y hy
  simp only [wordBytes, List.mem_cons, List.not_mem_nil, or_false] at hy
  rcases hy with rfl | rfl | rfl | rfl <;> omega
theorem pad_r (n : Nat) : ∀ y ∈ padOf n, 0 ≤ y ∧ y ≤ 255 := by
  intro y hy
  simp only [padOf, be8, List.mem_cons, List.mem_append, List.not_mem_nil, or_false] at hy
  rcases hy with rfl | hy | hy | hy
  · omega
  · have := List.eq_of_mem_replicate hy; omega
  · rcases hy with rfl | rfl | rfl | rfl <;> omega
  · rcases hy with rfl | rfl | rfl | rfl <;> omega
/-- Bytes of a slice, block by block. -/
theorem lies_bytes {w : World} {ao : Option Addr} {n cap k : Nat} {m : List Int} (h : Lies w (.slice ao n cap) m) (hr : ∀ y ∈ m, 0 ≤ y ∧ y ≤ 255) (hk : 64 * k + 64 ≤ m.length) :
    ∃ g o, ao = some ⟨g, o, none⟩ ∧ n = m.length ∧ n ≤ cap ∧ cap ≤ 9223372036854775807 ∧ g < w.heap.size ∧ Bytes64 w g (o + 64 * k) ((m.drop (64 * k)).take 64) := by
  obtain ⟨a2, c2, h1, h2, h3, h4⟩ := h
  simp only [Value.slice.injEq] at h1
  obtain ⟨rfl, rfl, rfl⟩ := h1
  obtain ⟨g, o, q1, q2, q3⟩ := h4 (by omega)
  refine ⟨g, o, q1, rfl, h2, h3, q2, fun j hj => ?_⟩
  have hjl : 64 * k + j < m.length := by omega
  have hy : m[64 * k + j]? = some m[64 * k + j] := List.getElem?_eq_getElem hjl
  obtain ⟨b1, b2⟩ := hr _ (List.getElem_mem hjl)
  refine ⟨m[64 * k + j], ?_, b1, b2, ?_⟩
  · rw [List.getElem?_take, if_pos hj, List.getElem?_drop]; exact hy
  · rw [Nat.add_assoc]
    exact q3 _ _ (by simp [bs, hjl])
def wordsTo (s : R8) (i : Nat) : List Int := ((lst s).take i).flatMap wordBytes
theorem wordsTo_succ (s : R8) {i : Nat} (h : i < 8) : wordsTo s (i + 1) = wordsTo s i ++ wordBytes ((lst s).getD i 0) := by
  have hl : i < (lst s).length := h
  unfold wordsTo
  rw [List.take_succ_eq_append_getElem hl, List.flatMap_append]
  simp [List.getD, hl]
theorem wordsTo_all (s : R8) : wordsTo s 8 = digestOf s := by
  unfold wordsTo digestOf lst
  simp [List.append_assoc]
theorem wordsTo_len (s : R8) {i : Nat} (h : i ≤ 8) : (wordsTo s i).length = 4 * i := by
  induction i with
  | zero => rfl
  | succ i ih => rw [wordsTo_succ s (by omega), List.length_append, ih (by omega)]; simp [wordBytes]; omega
/-- The state in block H, the padded message beside it. -/
structure SumW (w w2 : World) (s : R8) (v : Value) (m : List Int) : Prop where
  row : w2.heap[w.heap.size]? = some (.cells s.vals 66 (0, 0))
  msg : Lies w2 v m
  apart : ∀ ao n cap g o, v = .slice ao n cap → ao = some ⟨g, o, none⟩ → w.heap.size < g
  bel : Below w.heap.size w w2
theorem SumW.boxes {w w2 : World} {s : R8} {v : Value} {m : List Int} (h : SumW w w2 s v m) :
    w2.cell? ⟨w.heap.size, 0, none⟩ = some (.int .u32 s.a) ∧ w2.cell? ⟨w.heap.size, 1, none⟩ = some (.int .u32 s.b) ∧ w2.cell? ⟨w.heap.size, 2, none⟩ = some (.int .u32 s.c) ∧ w2.cell? ⟨w.heap.size, 3, none⟩ = some (.int .u32 s.d) ∧
    w2.cell? ⟨w.heap.size, 4, none⟩ = some (.int .u32 s.e) ∧ w2.cell? ⟨w.heap.size, 5, none⟩ = some (.int .u32 s.f) ∧ w2.cell? ⟨w.heap.size, 6, none⟩ = some (.int .u32 s.g) ∧ w2.cell? ⟨w.heap.size, 7, none⟩ = some (.int .u32 s.h) := by
  have q := fun j => cell_of_row _ _ j _ _ _ h.row
  exact ⟨q 0, q 1, q 2, q 3, q 4, q 5, q 6, q 7⟩

theorem lies_other {w w' : World} {v : Value} {l : List Int} {H : Nat} (h : Lies w v l) (ho : ∀ k, k ≠ H → w'.heap[k]? = w.heap[k]?) (hs : w.heap.size ≤ w'.heap.size) (hap : ∀ ao n cap g o, v = .slice ao n cap → ao = some ⟨g, o, none⟩ → g ≠ H) : Lies w' v l := by
  obtain ⟨ao, cap, h1, h2, h3, h4⟩ := h
  refine ⟨ao, cap, h1, h2, h3, fun h0 => ?_⟩
  obtain ⟨g, o, q1, q2, q3⟩ := h4 h0
  refine ⟨g, o, q1, Nat.lt_of_lt_of_le q2 hs, fun j u hu => ?_⟩
  have e := ho g (hap ao _ cap g o h1 q1)
  have := q3 j u hu
  unfold World.cell? at this ⊢
  simp only [e]
  exact this
theorem bytes4 {x : Int} (h0 : 0 ≤ x) (h1 : x ≤ 4294967295) : [x / 16777216, x / 65536 % 256, x / 256 % 256, x % 256] = wordBytes x := by
  unfold wordBytes; congr 1; omega
theorem lst_w {s : R8} (h : s.ok) {i : Nat} (hi : i < 8) : W32 ((lst s).getD i 0) := by
  obtain ⟨a, b, c, d, e, f, g, h⟩ := h
  have : i = 0 ∨ i = 1 ∨ i = 2 ∨ i = 3 ∨ i = 4 ∨ i = 5 ∨ i = 6 ∨ i = 7 := by omega
  rcases this with rfl | rfl | rfl | rfl | rfl | rfl | rfl | rfl <;> assumption
/-- A whole array out of its block, in the still head of a region. -/
theorem wpStill_load_row {P : Program} {ops : Array Oper} {rest : List Oper} {o : Oper} {a : Act} {w : World} {Q : Act → Prop} (hgd : o.guard = none) (ty : TypeId) (x : Operand) (ho : o.op = .load ty x)
    (g : Nat) (hx : a.eval x = .pointer (some ⟨g, 0, none⟩)) (t : TypeId) (cs : Array Value) (fr : Nat × Nat) (d : TypeDesc) (hg : w.heap[g]? = some (.cells cs t fr))
    (hu : P.underlying ty = some d) (hd : (match d with | .struct _ | .array _ _ => true | _ => false) = true) (hi : (P.info? ty).map (·.size) = some cs.size)
    (h : wpStill P ops w Q rest (a.put o.dst (.agg cs))) : wpStill P ops w Q (o :: rest) a := by
  refine wpStill_step (fun K hK => ?_)
  have hw : Region.wanted o (yielded ops a.tmps) = true := by simp [Region.wanted, hgd]
  rw [if_pos hw]
  have hr : (execOp a.eval o).run P w = .ok (.value (.agg cs)) w := by
    unfold execOp
    simp only [ho, hx, Instr.loadAt, Instr.sureAddr, Sem.run_bind, Sem.run_pure, Result.andThen_ok, run_loadVar_row w g t ty cs fr d hg hu hd hi]
  unfold Oper.still
  rw [hr, Oper.stillUpon_value]
  exact hK _ h

set_option maxRecDepth 100000 in
set_option maxHeartbeats 3200000 in
theorem refSum_any (l : List Int) (ao : Option Addr) (n cap : Nat) (w : World) (hl : l.length = n) (hL : Lies w (.slice ao n cap) l) (hr : ∀ y ∈ l, 0 ≤ y ∧ y ≤ 255) (hn : n ≤ 2300) :
    Calls Tryd.prog 28 #[.slice ao n cap] w fun e w' => e = .returned (.string (strOfNums (digest l))) ∧ Below w.heap.size w w' := by
  have HL := hid_of hL
  have HN := hid_of hl
  obtain ⟨m, hm⟩ : ∃ m, m = l ++ padOf n := ⟨_, rfl⟩
  have HMR : Hid (∀ y ∈ m, 0 ≤ y ∧ y ≤ 255) := hid_of (fun y hy => by
    rw [hm] at hy
    rcases List.mem_append.1 hy with h | h
    · exact hr y h
    · exact pad_r n y h)
  obtain ⟨K, hK⟩ : ∃ K, K = m.length / 64 := ⟨_, rfl⟩
  have HML : Hid (m.length = 64 * K) := hid_of (by
    have := pad_whole n
    have e : m.length = n + (padOf n).length := by rw [hm, List.length_append, hl]
    omega)
  have HKB : Hid (1 ≤ K ∧ K ≤ 40) := hid_of (by
    have e : m.length = n + (padOf n).length := by rw [hm, List.length_append, hl]
    have := padOf_length n
    have : zerosOf n ≤ 63 := zeros_le n
    have := HML.out
    omega)
  have HD : Hid (digest l = digestOf (hashN m K)) := hid_of (by unfold digest HB; rw [hl, ← hm, hK])
  obtain ⟨ml, hml⟩ : ∃ ml, ml = m.length := ⟨_, rfl⟩
  have HML2 := hid_of hml
  have HPAD : Hid (∀ w', Below w.heap.size w w' → Calls Tryd.prog 40 #[.slice ao n cap] w' fun e w'' => ∃ (xo : Option Addr) (c : Nat), e = .returned (.slice xo ml c) ∧ OS w'.heap.size w' w'' (.slice xo ml c) m) := hid_of (fun w' hb => by rw [hml, hm]; exact padded_any l ao n cap w' hl (hL.at hb) hn)
  clear hL hl hm hK hr hml
  go_enter Tryd.func28, Tryd.ntmps28
  go_wp2_with (go_at_call 40; ((refine (HPAD.out _ (bel_alloc _ _)).mono ?_); (rintro e w1 ⟨xo, xc, rfl, h1⟩; have H1 := hid_of h1; clear h1)))
  have HLI : Hid (Lies w1 (.slice xo ml xc) m) := hid_of (H1.out.lies (by have := HML.out; have := HKB.out; omega))
  have HAD : Hid (∀ g o, xo = some ⟨g, o, none⟩ → w.heap.size < g) := hid_of (fun g o e => by
    have h := H1.out.own.lt g (by rw [e]; rfl)
    simp at h; omega)
  have HROW0 : Hid (w1.heap[w.heap.size]? = some (.cells (hashN m 0).vals 66 (0, 0))) := hid_of (by
    rw [H1.out.bel.block _ (by simp)]
    rw [heap_alloc_new]; rfl)
  have HBL0 : Hid (Below w.heap.size w w1) := hid_of (bel_fst H1.out.bel)
  go_loopw [5] (fun iv wr => ∃ (k j : Nat), k ≤ K ∧ iv = .int .i64 (j : Int) ∧ Hid (j = 64 * k) ∧ Hid (wr.heap[w.heap.size]? = some (.cells (hashN m k).vals 66 (0, 0))) ∧ Hid (Lies wr (.slice xo ml xc) m) ∧ Hid (Below w.heap.size w wr)) (fun iv _ => ml - (intOf iv).toNat)
  case atStart => exact ⟨0, 0, Nat.zero_le _, rfl, hid_of rfl, HROW0, HLI, HBL0⟩
  case round =>
    obtain ⟨k, j, hk, rfl, hj, hrow, hlies, hbel⟩ := hrel
    by_cases hlt : k < K
    · have HJ2 : Hid (j + 64 ≤ ml) := hid_of (by have := hj.out; have := HML.out; have := HML2.out; omega)
      obtain ⟨g, o, hxo, hn1, hn2, hn3, hg, hby⟩ := lies_bytes (k := k) hlies.out HMR.out (by have := HML.out; omega)
      obtain ⟨r, hr⟩ : ∃ r, r = hashN m k := ⟨_, rfl⟩
      have HRR := hid_of hr
      have hboxes : ∀ q v, r.vals[q]? = some v → wr.cell? ⟨w.heap.size, q, none⟩ = some v := fun q v hv => by
        rw [cell_of_row _ _ q _ _ _ hrow.out, ← hr]; exact hv
      have q0 := hboxes 0 _ rfl
      have q1 := hboxes 1 _ rfl
      have q2 := hboxes 2 _ rfl
      have q3 := hboxes 3 _ rfl
      have q4 := hboxes 4 _ rfl
      have q5 := hboxes 5 _ rfl
      have q6 := hboxes 6 _ rfl
      have q7 := hboxes 7 _ rfl
      have HOK : Hid r.ok := hid_of (by rw [hr]; exact hashN_ok _ _)
      have HNX : Hid (mixF r ((m.drop (64 * k)).take 64) = hashN m (k + 1)) := hid_of (by rw [hr]; rfl)
      have hjml : (j : Int) + 64 ≤ (ml : Int) := by have := HJ2.out; omega
      have hjn : j + 64 ≤ ml := HJ2.out
      have hmlb : ml ≤ 2560 := by have := HML.out; have := HML2.out; have := HKB.out; omega
      have hd : decide (j < ml) = true := by simp; omega
      obtain ⟨j2, hj2⟩ : ∃ j2, j2 = j + 64 := ⟨_, rfl⟩
      have s1 : IntKind.i64.wrap ((j : Int) + 64) = (j2 : Int) := by rw [IntWalk.i64_in _ (by omega)]; omega
      have hj2b : (j2 : Int) ≤ (ml : Int) := by omega
      have hj2n : j2 ≤ ml := by omega
      have hj2c : j ≤ j2 := by omega
      have hcb : ml ≤ xc := hn2
      have hj2x : j2 ≤ xc := by omega
      have HCX := hid_of hn3
      have hdiff : j2 - j = 64 := by omega
      have HBY : Hid (∀ w2, Below wr.heap.size wr w2 → Bytes64 w2 g (o + j) ((m.drop (64 * k)).take 64)) := hid_of (fun w2 hb => by
        rw [hj.out]; exact hby.later hb)
      have HG := hid_of hg
      have HGH := hid_of (HAD.out g o hxo)
      have HKK : Hid (k + 1 ≤ K) := hid_of (by omega)
      clear hr hboxes hj2 hn1 hn2 hn3 hby hg hlt
      have hjx : j < xc := by omega
      have hjx2 : ¬ xc = j := by omega
      subst hxo
      have HROWD : Hid (wr.drew.heap[w.heap.size]? = some (.cells r.vals 66 (0, 0))) := hid_of (by rw [HRR.out]; exact hrow.out)
      have HLD : Hid (Lies wr.drew (.slice (some ⟨g, o, none⟩) ml xc) m) := hlies
      have HBD : Hid (Below w.heap.size w wr.drew) := hid_of hbel.out.drew
      have HBK : Hid (Calls Tryd.prog 41 #[.agg #[.int .u32 r.a, .int .u32 r.b, .int .u32 r.c, .int .u32 r.d, .int .u32 r.e, .int .u32 r.f, .int .u32 r.g, .int .u32 r.h], .slice (some ⟨g, o + j, none⟩) 64 (xc - j)] wr.drew fun e w' => e = .returned (.agg (mixF r ((m.drop (64 * k)).take 64)).vals) ∧ Below wr.drew.heap.size wr.drew w') := hid_of (rblock_any r g (o + j) (xc - j) _ wr.drew HOK.out (HBY.out wr.drew (Below.refl _ _).drew))
      obtain ⟨arr, harr⟩ : ∃ arr, arr = (mixF r ((m.drop (64 * k)).take 64)).vals := ⟨_, rfl⟩
      have HARR : Hid (arr = (hashN m (k + 1)).vals) := hid_of (by rw [harr, HNX.out])
      have HSZ : Hid (arr.size = 8) := hid_of (by rw [harr]; rfl)
      have HI : Hid ((Tryd.prog.info? 66).map (·.size) = some arr.size) := hid_of (by rw [HSZ.out]; exact Tryd.info8)
      have HO1 : Hid (arr.all (·.oneCell') = true) := hid_of (by rw [harr]; exact ok8 _ _ _ _ _ _ _ _)
      rw [← harr] at HBK
      clear harr
      have HROWW : Hid (wr.heap[w.heap.size]? = some (.cells #[.int .u32 r.a, .int .u32 r.b, .int .u32 r.c, .int .u32 r.d, .int .u32 r.e, .int .u32 r.f, .int .u32 r.g, .int .u32 r.h] 66 (0, 0))) := HROWD
      go_wp2
      refine wp_region_still_tail 6 (by kernel_rfl) (by kernel_rfl) ?_
      simp only [List.take_succ_cons, List.take_zero, List.drop_succ_cons, List.drop_zero]
      refine wpStill_load_row rfl 66 (.tmp 3) rfl w.heap.size rfl 66 #[.int .u32 r.a, .int .u32 r.b, .int .u32 r.c, .int .u32 r.d, .int .u32 r.e, .int .u32 r.f, .int .u32 r.g, .int .u32 r.h] (0, 0) _ HROWW.out Tryd.underlying66 rfl Tryd.info8 ?_
      repeat still_step
      refine wpStill_nil ?_
      change wpList _ _ _ _ _ wr.drew
      clear s1
      generalize wr.drew = w4 at *
      go_wp2_with (first
        | (go_at_call 41; ((with_reducible refine (HBK.out).mono ?_); (rintro e w5 ⟨rfl, h5⟩; have HROW5 := hid_of ((h5.block _ (lt_of_block HROWD.out)).trans HROWD.out); have HL5 := hid_of (HLD.out.at h5); have HB5 := hid_of (HBD.out.trans (h5.mono HBD.out.size)); clear h5)))
        | (refine wpList_store_row rfl 66 (.tmp 3) (.tmp 24) rfl w.heap.size arr rfl rfl 66 _ HROW5.out HI.out (by rw [HSZ.out]; rfl) HO1.out ?_))
      have HX1 : Hid ((w5.setRow w.heap.size arr).heap[w.heap.size]? = some (.cells (hashN m (k + 1)).vals 66 (0, 0))) := hid_of (by rw [← HARR.out]; exact setRow_heap _ _ _ _ _ _ HROW5.out)
      have HX2 : Hid (Lies (w5.setRow w.heap.size arr) (.slice (some ⟨g, o, none⟩) ml xc) m) := hid_of (lies_other (H := w.heap.size) HL5.out (fun q hq => setRow_other w5 w.heap.size q _ hq) (by simp) (fun ao2 n2 c2 g2 o2 e1 e2 => by
        simp only [Value.slice.injEq] at e1
        rw [e2] at e1
        simp only [Option.some.injEq, Addr.mk.injEq] at e1
        have := HGH.out
        omega))
      have HX3 : Hid (Below w.heap.size w (w5.setRow w.heap.size arr)) := hid_of (below_setRow HB5.out (Nat.le_refl _) arr)
      go_roundw
      case rel => exact ⟨k + 1, j + 64, HKK.out, by go_num, hid_of (by have := hj.out; omega), HX1, HX2, HX3⟩
      case measure => simp [intOf]; have := HJ2.out; omega
    · have ekK : k = K := by omega
      subst ekK
      have hd : decide (j < ml) = false := by have := hj.out; have := HML.out; have := HML2.out; simp; omega
      obtain ⟨s, hs⟩ : ∃ s, s = hashN m k := ⟨_, rfl⟩
      have HS : Hid (s.ok) := hid_of (by rw [hs]; exact hashN_ok _ _)
      have HDD : Hid (digest l = digestOf s) := hid_of (by rw [HD.out, hs])
      have HROW : Hid (wr.heap[w.heap.size]? = some (.cells s.vals 66 (0, 0))) := hid_of (by rw [hs]; exact hrow.out)
      have HLT := hid_of (lt_of_block hrow.out)
      have HO0 : Hid (OS wr.heap.size wr wr (.slice none 0 0) (wordsTo s 0)) := hid_of (os_nil wr)
      clear hlt hs hrow hlies
      go_wp2
      obtain ⟨wo, rfl⟩ : ∃ wo : World, wo = wr := ⟨_, rfl⟩
      go_loopw [6, 7] (fun ov iv wr => ∃ (i : Nat) (yo : Option Addr) (yc : Nat), i ≤ 8 ∧ iv = .int .i64 i ∧ ov = .slice yo (4 * i) yc ∧ Hid (OS wo.heap.size wo wr (.slice yo (4 * i) yc) (wordsTo s i))) (fun _ iv _ => 8 - (intOf iv).toNat)
      case atStart => exact ⟨0, none, 0, by omega, rfl, rfl, HO0⟩
      case round =>
        obtain ⟨i, yo, yc, hi, rfl, rfl, how⟩ := hrel
        obtain ⟨i4, hi4⟩ : ∃ i4, i4 = 4 * i := ⟨_, rfl⟩
        have HI4 := hid_of hi4
        rw [← hi4] at how ⊢
        clear hi4
        by_cases hil : i < 8
        · have c1 : wr.cell? ⟨w.heap.size, i, none⟩ = some (.int .u32 ((lst s).getD i 0)) := by
            rw [how.out.bel.cell (p := ⟨w.heap.size, i, none⟩) HLT.out, cell_of_row _ _ _ _ _ _ HROW.out, ← lst_vals]
            have : i < (lst s).length := hil
            simp [ws, List.getD, this]
          obtain ⟨x0, x1⟩ := lst_w HS.out hil
          obtain ⟨x, hx⟩ : ∃ x, x = (lst s).getD i 0 := ⟨_, rfl⟩
          rw [← hx] at c1 x0 x1
          have HX := hid_of hx
          have bi : (i : Int) < 8 := by omega
          have HLEN : Hid ((wordsTo s i).length = i4) := hid_of (by rw [wordsTo_len s hi, HI4.out])
          have HI48 : Hid (i4 ≤ 32) := hid_of (by have := HI4.out; omega)
          have LZ := hid_of (lies_new (w := wr) (l := [x / 16777216, x / 65536 % 256, x / 256 % 256, x % 256]) (n := 4) (cs := #[.int .u8 (x / 16777216), .int .u8 (x / 65536 % 256), .int .u8 (x / 256 % 256), .int .u8 (x % 256)]) (m := (0, 0)) rfl rfl (by simp))
          have HW4 : Hid (wordsTo s (i + 1) = wordsTo s i ++ [x / 16777216, x / 65536 % 256, x / 256 % 256, x % 256]) := hid_of (by rw [wordsTo_succ s hil, ← HX.out, bytes4 x0 x1])
          clear hx
          go_wp2_with (at_builtin; ((refine wpList_app rfl _ _ rfl (v := .slice yo i4 yc) rfl (how.out.alloc _) (vx := .slice (some ⟨wr.heap.size, 0, none⟩) 4 4) rfl LZ.out (by rw [HLEN.out]; simp; have := HI48.out; omega) ?_); intro xo3 n3 c3 w3 hn3 h3; obtain rfl : n3 = i4 + 4 := (by rw [hn3, HLEN.out]; rfl); have X3 : Hid (OS wo.heap.size wo w3 (.slice xo3 (i4 + 4) c3) (wordsTo s (i + 1))) := hid_of (by rw [HW4.out]; exact h3); clear h3 hn3))
          go_roundw
          case rel => exact ⟨i + 1, xo3, c3, by omega, by go_num, by rw [show 4 * (i + 1) = i4 + 4 by have := HI4.out; omega], by rw [show 4 * (i + 1) = i4 + 4 by have := HI4.out; omega]; exact X3⟩
          case measure => simp [intOf]; omega
        · obtain rfl : i = 8 := by omega
          have HF : Hid (OS wo.heap.size wo wr (.slice yo i4 yc) (digestOf s)) := hid_of (by rw [← wordsTo_all]; exact how.out)
          have H32 : Hid ((digestOf s).length = i4) := hid_of (by rw [← wordsTo_all, wordsTo_len s (by omega), HI4.out])
          clear how
          go_wp2_with (refine wpList_str _ rfl 22 9 (.tmp 46) rfl 5 Tryd.underlying22 Tryd.underlying5 Tryd.underlying9 yo (digestOf s) i4 yc H32.out rfl HF.out.src ?_)
          go_ret
          exact ⟨by rw [HDD.out]; rfl, hbel.out.trans (HF.out.bel.mono hbel.out.size)⟩

end Go.Proofs.YtogfgcihhnblkaaDoor
