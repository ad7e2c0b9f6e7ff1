/- newChase: a chase with the rules of a list. Bounds on sizes alone. -/
import Derived.Test.YtjponegeidiheaaClsAdd2
import Derived.Test.YtjponegeidiheaaClsCmp
import Derived.Deep.OwnRows
namespace Go.Proofs.Ytjponegeidiheaa
open Go.RowKit

theorem boolsE : Elem Try.prog 82 4 (.bool false) 1 := ⟨Try.underlying82, by kernel_rfl, rfl⟩
def off0 : Nat → Nat := fun _ => 0
def nilV : Value := .slice none 0 0
theorem ch_new {w w3 : World} {c n gu gh : Nat} (hb : Below w.heap.size w w3) (hn : n ≤ 1000000) (hc : w3.heap[c]? = some (.cells #[.slice none 0 0, .slice (some ⟨gu, 0, none⟩) n n, .slice none 0 0, .slice none 0 0, .slice (some ⟨gh, 0, none⟩) n n, .slice none 0 0, .int .i64 0] 84 (0, 0)))
    (hu : w3.heap[gu]? = some (.cells (madeCells #[.slice none 0 0] n) 56 (0, 0))) (hh : w3.heap[gh]? = some (.cells (madeCells #[.bool false] n) 4 (0, 0))) :
    CH w3 c n [] (lackR [] off0 []) (memB []) [] 0 ⟨.slice none 0 0, .slice none 0 0, .slice none 0 0, .slice none 0 0, gu, gh, List.replicate n (.slice none 0 0), []⟩ (fun b => b = c ∨ b = gu ∨ b = gh) := by
  have hnil : ∀ E, w3.ownsRow 0 E 1 (.slice none 0 0) 0 [] := fun E => World.ownsRow_nil w3 0 E 1
  have hno : ∀ g, (Value.slice none 0 0).ownBlock = some g → False := fun g hg => by cases hg
  have e1 : (madeCells #[Value.slice none 0 0] n) = (List.replicate n (Value.slice none 0 0)).toArray := by
    rw [← Array.toList_inj]; simp [toList_madeCells_one]
  have e2 : (madeCells #[Value.bool false] n) = (bools n (memB [])).toArray := by
    rw [← Array.toList_inj, toList_madeCells_one]
    apply List.ext_getElem?
    intro i
    by_cases hi : i < n
    · simp [bools, memB, hi]
    · simp [bools, hi]
  have hur : ∀ (i : Nat) (v : Value), (List.replicate n (Value.slice none 0 0))[i]? = some v → v = .slice none 0 0 := fun i v h => by
    have := List.eq_of_mem_replicate (List.mem_of_getElem? h); exact this
  refine ⟨hc, hnil _, by rw [hu, e1], by simp, fun i v hv => ?_, hnil _, fun i v hv => by simp at hv, hnil _, by rw [hh, e2], hnil _, .inl rfl, fun g hg => (hno g hg).elim, .inr (.inl rfl), fun i v hv g hg => ?_, fun g hg => (hno g hg).elim, fun g hg => (hno g hg).elim, .inr (.inr rfl), fun g hg => (hno g hg).elim, fun g hg => (hno g hg).elim, fun g hg => (hno g hg).elim, fun g hg => (hno g hg).elim,
    fun i v hv g hg => ?_, fun i v hv g hg => ?_, fun i v hv g hg => ?_, fun i j u v _ hu2 hv g hg => ?_, fun g hg => (hno g hg).elim, fun g hg => ?_, by simp, by simp, fun i x hi => by simp at hi, fun i hi => by simp at hi⟩
  · rw [hur i v hv]; exact hnil _
  · rw [hur i v hv] at hg; cases hg
  · rw [hur i v hv] at hg; cases hg
  · rw [hur i v hv] at hg; cases hg
  · rw [hur i v hv] at hg; cases hg
  · rw [hur i u hu2] at hg; cases hg
  · rcases hg with rfl | rfl | rfl
    · exact lt_of_block hc
    · exact lt_of_block hu
    · exact lt_of_block hh

theorem three_new (w : World) (a b c : Obj) : Below w.heap.size w ((((w.alloc a).alloc b).alloc c).drew) ∧ ((((w.alloc a).alloc b).alloc c).drew).heap[w.heap.size]? = some a ∧ ((((w.alloc a).alloc b).alloc c).drew).heap[w.heap.size + 1]? = some b ∧ ((((w.alloc a).alloc b).alloc c).drew).heap[w.heap.size + 1 + 1]? = some c := by
  have z1 : (w.alloc a).heap.size = w.heap.size + 1 := by simp
  have z2 : ((w.alloc a).alloc b).heap.size = w.heap.size + 1 + 1 := by simp
  have B1 := bel_alloc w a
  have B2 := bel_alloc (w.alloc a) b
  have B3 := bel_alloc ((w.alloc a).alloc b) c
  have n1 := heap_alloc_new w a
  have n2 := heap_alloc_new (w.alloc a) b
  have n3 := heap_alloc_new ((w.alloc a).alloc b) c
  rw [z1] at n2
  rw [z2] at n3
  refine ⟨((B1.trans (B2.mono (by omega))).trans (B3.mono (by omega))).drew, ?_, ?_, n3⟩
  · exact ((B3.block _ (by omega)).trans (B2.block _ (by omega))).trans n1
  · exact (B3.block _ (by omega)).trans n2
/-- The rules are of n names. -/
def RulesOk (n : Nat) (R : List Hrl) : Prop := ∀ (i : Nat) (q : Hrl), R[i]? = some q → q.1.Nodup ∧ (∀ x ∈ q.1, x < n) ∧ ∀ x ∈ q.2, x < n
def NewI (B : Nat) (w : World) (c n : Nat) (R : List Hrl) (wr : World) : Prop :=
  ∃ V S, CH wr c n R (lackR R off0 []) (memB []) [] 0 V S ∧ Below w.heap.size w wr ∧ (∀ b, S b → w.heap.size ≤ b) ∧ ∀ v ∈ V.ar, ∀ g, v.ownBlock = some g → B ≤ g
def NewP (B : Nat) (w : World) (n : Nat) (R : List Hrl) (e : Ending) (w' : World) : Prop := ∃ c, e = .returned (.pointer (some ⟨c, 0, none⟩)) ∧ w.heap.size ≤ c ∧ NewI B w c n R w'

set_option maxRecDepth 100000 in
set_option maxHeartbeats 800000 in
theorem new_any (B : Nat) (n : Nat) (R : List Hrl) (ao : Option Addr) (m cap : Nat) (w : World) (hco : CoR B w (.slice ao m cap) R) (hok : RulesOk n R) (hn : n ≤ 1000000) (hm : m ≤ 1000000) :
    Calls Try.prog 46 #[.int .i64 n, .slice ao m cap] w (NewP B w n R) := by
  obtain ⟨l, hl1, hl2⟩ := hco
  obtain ⟨hml, hm1, hm2⟩ := hl1.cut
  have hmk1 := run_make_row' (P := Try.prog) 81 56 (.slice none 0 0) 24 Try.underlying81 rowsE.info rfl .i64 .i64 n (by omega) (by omega)
  have hmk2 := run_make_row' (P := Try.prog) 82 4 (.bool false) 1 Try.underlying82 boolsE.info rfl .i64 .i64 n (by omega) (by omega)
  have HML : Hid (m = R.length) := hid_of (by rw [hml]; exact hl2.1)
  have HADD : Hid (∀ c wr j, j < m → NewI B w c n (R.take j) wr → ∃ (g o : Nat) (po qo : Option Addr) (pl pc ql qc : Nat), ao = some ⟨g, o, none⟩ ∧ wr.cell? ⟨g, o + j * 2, none⟩ = some (.slice po pl pc) ∧ wr.cell? ⟨g, o + j * 2 + 1, none⟩ = some (.slice qo ql qc) ∧
      Calls Try.prog 66 #[.pointer (some ⟨c, 0, none⟩), .agg #[.slice po pl pc, .slice qo ql qc]] (wr.alloc (.cells #[.slice po pl pc, .slice qo ql qc] 90)) fun e w' => e = .returned (.tuple #[]) ∧ NewI B w c n (R.take (j + 1)) w') := hid_of (fun c wr j hj hi => by
    obtain ⟨V, S, h1, h2, h3, h8⟩ := hi
    obtain ⟨t, ht⟩ : ∃ t, l[j]? = some t := ⟨_, List.getElem?_eq_getElem (by omega)⟩
    obtain ⟨q, hq⟩ : ∃ q, R[j]? = some q := ⟨_, List.getElem?_eq_getElem (by have := HML.out; omega)⟩
    obtain ⟨o1, o2⟩ := hl2.2 j t q ht hq
    obtain ⟨g, o, e, c0, c1⟩ := (hl1.at h2).get ht
    obtain ⟨po, pc, e1⟩ := own_shape o1
    obtain ⟨qo, qc, e2⟩ := own_shape o2
    rw [e1] at c0 o1
    rw [e2] at c1 o2
    obtain ⟨k1, k2, k3⟩ := hok j q hq
    have B1 := bel_alloc wr (.cells #[.slice po q.1.length pc, .slice qo q.2.length qc] 90)
    have B2 := h2.trans (B1.mono h2.size)
    have p1 := own_same o1 fun k hk => B2.block k (own_lt o1 hk)
    have p2 := own_same o2 fun k hk => B2.block k (own_lt o2 hk)
    refine ⟨g, o, po, qo, _, pc, _, qc, e, c0, c1, ?_⟩
    refine (add_any B c n (R.take j) off0 [] V S q.1 q.2 _ _ _ (h1.at B1) k1 k2 k3 (own_rd p1) (own_rd p2) (fun b hb => ⟨own_lt p1 hb, fun hs => ?_⟩) (fun b hb => ⟨own_lt p2 hb, fun hs => ?_⟩) hn (by rw [List.length_take]; omega) rfl h8 (fun g hg => (o2.lt g hg).1)).mono ?_
    · have := own_lt o1 hb; have := h3 b hs; omega
    · have := own_lt o2 hb; have := h3 b hs; omega
    · rintro ee w' ⟨rfl, V', S', h5, h6, h9⟩
      refine ⟨rfl, V', S', ?_, (h2.trans (B1.mono h2.size)).trans (h6.below (Nat.le_trans h2.size B1.size) h3), fun b hb => ?_, h9⟩
      · rw [take_snoc_get hq]; exact h5
      · rcases h6.sub b hb with h7 | h7
        · exact h3 b h7
        · have := h2.size; have := B1.size; omega)
  have HST : Hid (∀ c gu gh w3, Below w.heap.size w w3 → w.heap.size ≤ c → w.heap.size ≤ gu → w.heap.size ≤ gh → w3.heap[c]? = some (.cells #[.slice none 0 0, .slice (some ⟨gu, 0, none⟩) n n, .slice none 0 0, .slice none 0 0, .slice (some ⟨gh, 0, none⟩) n n, .slice none 0 0, .int .i64 0] 84 (0, 0)) →
      w3.heap[gu]? = some (.cells (madeCells #[.slice none 0 0] n) 56 (0, 0)) → w3.heap[gh]? = some (.cells (madeCells #[.bool false] n) 4 (0, 0)) → NewI B w c n (R.take 0) w3) := hid_of (fun c gu gh w3 hb h1 h2 h3 e1 e2 e3 => ⟨_, _, ch_new hb hn e1 e2 e3, hb, fun b hb2 => (by rcases hb2 with rfl | rfl | rfl <;> assumption), fun v hv => by simp at hv⟩)
  have hmm : m ≤ 9223372036854775807 := by omega
  clear hl1 hl2 hml hm1 hm2 hok hn
  go_enter Try.func46, Try.ntmps46
  go_wp2
  go_region
  · have h3 := three_new w (.cells (madeCells #[.slice none 0 0] n) 56) (.cells (madeCells #[.bool false] n) 4) (.cells #[.slice none 0 0, .slice (some ⟨w.heap.size, 0, none⟩) n n, .slice none 0 0, .slice none 0 0, .slice (some ⟨w.heap.size + 1, 0, none⟩) n n, .slice none 0 0, .int .i64 0] 84)
    have HI0 := hid_of (HST.out (w.heap.size + 1 + 1) w.heap.size (w.heap.size + 1) _ h3.1 (by omega) (Nat.le_refl _) (by omega) h3.2.2.2 h3.2.1 h3.2.2.1)
    have HCB : Hid (w.heap.size ≤ w.heap.size + 1 + 1) := hid_of (by omega)
    clear h3 hmk1 hmk2 HST
    generalize (((w.alloc (.cells (madeCells #[.slice none 0 0] n) 56)).alloc (.cells (madeCells #[.bool false] n) 4)).alloc (.cells #[.slice none 0 0, .slice (some ⟨w.heap.size, 0, none⟩) n n, .slice none 0 0, .slice none 0 0, .slice (some ⟨w.heap.size + 1, 0, none⟩) n n, .slice none 0 0, .int .i64 0] 84)).drew = W3 at *
    generalize hcb : w.heap.size + 1 + 1 = cb at *
    clear hcb
    go_wp2
    go_loopw [7, 16] (fun xv iv wr => ∃ (j : Nat) (v : Value), xv = v ∧ j ≤ m ∧ iv = .int .i64 j ∧ Hid (NewI B w cb n (R.take j) wr)) (fun _ iv _ => m - (intOf iv).toNat)
    case atStart => exact ⟨0, _, rfl, Nat.zero_le _, rfl, HI0⟩
    case round =>
      obtain ⟨j, v, rfl, hj, rfl, hi⟩ := hrel
      by_cases hlt : j < m
      · have hd : decide (j < m) = true := by simp; omega
        obtain ⟨g, o, po, qo, pl, pc, ql, qc, rfl, c0, c1, hcall⟩ := HADD.out cb wr j hlt hi.out
        have HC := hid_of hcall
        clear hcall hi
        go_wp2_with (go_at_call 66; ((with_reducible refine (HC.out).mono ?_); (rintro e w2 ⟨rfl, h5⟩)); have HH := hid_of h5; clear h5)
        go_roundw
        case rel => exact ⟨j + 1, _, rfl, by omega, by go_num, HH⟩
        case measure => simp [intOf]; omega
      · have hd : decide (j < m) = false := by simp; omega
        obtain rfl : m = j := by omega
        have HE : Hid (NewP B w n R (.returned (.pointer (some ⟨cb, 0, none⟩))) wr) := hid_of ⟨cb, rfl, HCB.out, by
          have h5 := hi.out
          rw [List.take_of_length_le (by have := HML.out; omega)] at h5; exact h5⟩
        go_wp2
        go_ret
        exact HE.out
  · have h3 := three_new w (.cells (madeCells #[.bool false] n) 4) (.cells (madeCells #[.slice none 0 0] n) 56) (.cells #[.slice none 0 0, .slice (some ⟨w.heap.size + 1, 0, none⟩) n n, .slice none 0 0, .slice none 0 0, .slice (some ⟨w.heap.size, 0, none⟩) n n, .slice none 0 0, .int .i64 0] 84)
    have HI0 := hid_of (HST.out (w.heap.size + 1 + 1) (w.heap.size + 1) w.heap.size _ h3.1 (by omega) (by omega) (Nat.le_refl _) h3.2.2.2 h3.2.2.1 h3.2.1)
    have HCB : Hid (w.heap.size ≤ w.heap.size + 1 + 1) := hid_of (by omega)
    clear h3 hmk1 hmk2 HST
    generalize (((w.alloc (.cells (madeCells #[.bool false] n) 4)).alloc (.cells (madeCells #[.slice none 0 0] n) 56)).alloc (.cells #[.slice none 0 0, .slice (some ⟨w.heap.size + 1, 0, none⟩) n n, .slice none 0 0, .slice none 0 0, .slice (some ⟨w.heap.size, 0, none⟩) n n, .slice none 0 0, .int .i64 0] 84)).drew = W3 at *
    generalize hcb : w.heap.size + 1 + 1 = cb at *
    clear hcb
    go_wp2
    go_loopw [7, 16] (fun xv iv wr => ∃ (j : Nat) (v : Value), xv = v ∧ j ≤ m ∧ iv = .int .i64 j ∧ Hid (NewI B w cb n (R.take j) wr)) (fun _ iv _ => m - (intOf iv).toNat)
    case atStart => exact ⟨0, _, rfl, Nat.zero_le _, rfl, HI0⟩
    case round =>
      obtain ⟨j, v, rfl, hj, rfl, hi⟩ := hrel
      by_cases hlt : j < m
      · have hd : decide (j < m) = true := by simp; omega
        obtain ⟨g, o, po, qo, pl, pc, ql, qc, rfl, c0, c1, hcall⟩ := HADD.out cb wr j hlt hi.out
        have HC := hid_of hcall
        clear hcall hi
        go_wp2_with (go_at_call 66; ((with_reducible refine (HC.out).mono ?_); (rintro e w2 ⟨rfl, h5⟩)); have HH := hid_of h5; clear h5)
        go_roundw
        case rel => exact ⟨j + 1, _, rfl, by omega, by go_num, HH⟩
        case measure => simp [intOf]; omega
      · have hd : decide (j < m) = false := by simp; omega
        obtain rfl : m = j := by omega
        have HE : Hid (NewP B w n R (.returned (.pointer (some ⟨cb, 0, none⟩))) wr) := hid_of ⟨cb, rfl, HCB.out, by
          have h5 := hi.out
          rw [List.take_of_length_le (by have := HML.out; omega)] at h5; exact h5⟩
        go_wp2
        go_ret
        exact HE.out
end Go.Proofs.Ytjponegeidiheaa
