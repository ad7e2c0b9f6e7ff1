/- Sum of a State, and Sum. Bounds on the sizes. -/
import Derived.Test.YtogfgcihhnblkaaDoorShaSum
import Derived.Laws.BytesArg
import Derived.Laws.IdiomStrings
namespace Go.Proofs.YtogfgcihhnblkaaDoor
open Go.RowKit

section
variable {P : Program} (w : World)

theorem run_str (src dst e : TypeId) (hs : P.underlying src = some (.slice e)) (he : P.underlying e = some (.int .u8)) (hd : P.underlying dst = some .string) (ao : Option Addr) (l : List Int) (cap : Nat)
    (hpos : 0 < l.length → ∃ ad, ao = some ad ∧ ∀ j v, (bs l)[j]? = some v → w.cell? (ad.add j) = some v) :
    (convert src dst (.slice ao l.length cap)).run P w = .ok (.string (strOfNums l)) w := by
  cases ao with
  | none =>
    obtain rfl : l = [] := by
      cases l with
      | nil => rfl
      | cons x r => obtain ⟨ad, h, _⟩ := hpos (by simp); cases h
    exact run_convert_bytes_nil w src e hs he 0 cap dst hd
  | some ad =>
    have hl : (loadCells ad l.length).run P w = .ok (l.map (Value.int .u8)).toArray w := by
      have := run_loadCells_list (P := P) w ad (bs l) (fun j v hj => by
        have h0 : 0 < l.length := by
          have := (List.getElem?_eq_some_iff.1 hj).1
          simp [bs] at this; omega
        obtain ⟨ad', h1, h2⟩ := hpos h0
        cases h1
        exact h2 j v hj)
      simpa [bs] using this
    rw [run_convert_bytes_string w src dst e _ l.length cap hs he hd, run_bytesToString w _ l.length cap l hl, foldl_push_bytes]
    simp [strOfNums, ByteArray.empty, ByteArray.emptyWithCapacity]
    rfl

theorem wpList_str {ops : Array Oper} {rest : List Oper} {o : Oper} {a : Act} {Q : Exit → Act → World → Prop} (hgd : o.guard = none) (src dst : TypeId) (x : Operand) (ho : o.op = .convert src dst x) (e : TypeId)
    (hs : P.underlying src = some (.slice e)) (he : P.underlying e = some (.int .u8)) (hd : P.underlying dst = some .string) (ao : Option Addr) (l : List Int) (n cap : Nat) (hn : l.length = n) (hx : a.eval x = .slice ao n cap)
    (hpos : 0 < l.length → ∃ ad, ao = some ad ∧ ∀ j v, (bs l)[j]? = some v → w.cell? (ad.add j) = some v) (h : wpList P ops Q rest (a.put o.dst (.string (strOfNums l))) w) : wpList P ops Q (o :: rest) a w := by
  refine wpList_plain hgd fun _ hK => ?_
  have hr := run_str (P := P) w src dst e hs he hd ao l cap hpos
  unfold Oper.wp execOp
  rw [← hn] at hx
  simp only [ho, hx, Sem.run_bind, hr, Result.andThen_ok, Sem.run_pure]
  exact hK _ _ h
end

def WSof (s : R8) : List Int := [s.a, s.b, s.c, s.d, s.e, s.f, s.g, s.h]
/-- The digest's bytes behind i words. -/
def digRow (s : R8) (i : Nat) : List Int := (digestOf s).take (4 * i) ++ List.replicate (32 - 4 * i) 0
theorem digRow_len (s : R8) (i : Nat) (h : i ≤ 8) : (digRow s i).length = 32 := by
  have : (digestOf s).length = 32 := rfl
  unfold digRow
  rw [List.length_append, List.length_take, List.length_replicate]; omega
theorem digRow_step (s : R8) (i : Nat) (h : i < 8) : put4 (digRow s i) (4 * i) ((WSof s).getD i 0) = digRow s (i + 1) := by
  match i, h with
  | 0, _ => rfl
  | 1, _ => rfl
  | 2, _ => rfl
  | 3, _ => rfl
  | 4, _ => rfl
  | 5, _ => rfl
  | 6, _ => rfl
  | 7, _ => rfl
theorem digRow_full (s : R8) : digRow s 8 = digestOf s := rfl
theorem ws_idx (s : R8) (i : Nat) (h : i < 8) (w : World) : (Instr.index 66 (.agg #[.int .u32 s.a, .int .u32 s.b, .int .u32 s.c, .int .u32 s.d, .int .u32 s.e, .int .u32 s.f, .int .u32 s.g, .int .u32 s.h]) (.int .i64 (i : Int))).run Tryd.prog w = .ok (.int .u32 ((WSof s).getD i 0)) w :=
  match i, h with
  | 0, _ => by kernel_rfl
  | 1, _ => by kernel_rfl
  | 2, _ => by kernel_rfl
  | 3, _ => by kernel_rfl
  | 4, _ => by kernel_rfl
  | 5, _ => by kernel_rfl
  | 6, _ => by kernel_rfl
  | 7, _ => by kernel_rfl
theorem wsof_w (s : R8) (h : s.ok) (i : Nat) : W32 ((WSof s).getD i 0) := by
  obtain ⟨h1, h2, h3, h4, h5, h6, h7, h8⟩ := h
  match i with
  | 0 => exact h1
  | 1 => exact h2
  | 2 => exact h3
  | 3 => exact h4
  | 4 => exact h5
  | 5 => exact h6
  | 6 => exact h7
  | 7 => exact h8
  | i + 8 => show W32 0; unfold W32; omega
theorem clone_copy {w : World} {b : Nat} {m : List Int} (h : Sst w b m) : ∃ arr : Array Value, w.heap[b]? = some (.cells arr 75 (0, 0)) ∧ arr.size = 73 ∧ arr.all (·.oneCell') = true ∧ Sst (w.alloc (.cells arr 75)) w.heap.size m := by
  obtain ⟨B, hB, hT⟩ := h
  exact ⟨(rowSt (HB m) B m.length).toArray, hB.blk, by simpa using rowSt_length _ _ _ hB.len, rowSt_one _ _ _, B, ⟨hB.len, hB.rng, heap_alloc_new _ _⟩, hT⟩

set_option maxRecDepth 100000 in
set_option maxHeartbeats 1600000 in
theorem sum_any (b : Nat) (m : List Int) (w : World) (h : Sst w b m) (hG : Glob w) (hn : m.length ≤ 100000000000) :
    Calls Tryd.prog 39 #[.pointer (some ⟨b, 0, none⟩)] w fun e w' => e = .returned (.string (strOfNums (digest m))) ∧ Below w.heap.size w w' := by
  obtain ⟨arr, hblk, hsz, h1, hst⟩ := clone_copy h
  have HBLK := hid_of hblk
  have HSZ := hid_of hsz
  have HI : Hid ((Tryd.prog.info? 75).map (·.size) = some arr.size) := hid_of (by rw [hsz]; exact Tryd.infoSt)
  have H1 := hid_of h1
  have HST := hid_of hst
  have HG := hid_of hG
  have H2 : Hid (2 ≤ w.heap.size) := hid_of hG.two
  obtain ⟨s, hs⟩ : ∃ s, s = HB (m ++ padOf m.length) := ⟨_, rfl⟩
  have HS := hid_of hs
  have HD : Hid (digest m = digestOf s) := hid_of (by rw [hs]; rfl)
  have HOK : Hid s.ok := hid_of (by rw [hs]; exact HB_ok _)
  clear h hblk hsz h1 hst hG hs
  have hz := (zero_of_info Tryd.zero48).1
  go_enter Tryd.func39, Tryd.ntmps39
  go_wp2_with (first
    | (refine wpList_load_row rfl 75 (.tmp 8) rfl b rfl 75 arr (0, 0) _ HBLK.out Tryd.underlying75 rfl HI.out ?_)
    | (refine wpList_store_fresh rfl 75 (.tmp 3) (.tmp 9) rfl _ arr rfl rfl rfl _ HI.out (by rw [HSZ.out]; exact zeroSt_size) H1.out ?_)
    | (go_at_call 46; refine (pad_any w.heap.size m _ HST.out (HG.out.bel ((Below.refl w.heap.size w).alloc (Nat.le_refl _) _) H2.out) H2.out hn).mono ?_; rintro e w2 ⟨rfl, h2, hk2⟩; have HK2 := hid_of (bel_new hk2); obtain ⟨B2, hB2, _⟩ := h2; rw [← HS.out] at hB2; obtain ⟨x0, x1, x2, x3, x4, x5, x6, x7⟩ := hB2.word; have HLT := hid_of hB2.lt; have hlt2 := hB2.lt; clear hB2 hk2))
  go_loopw [13] (fun iv wr => ∃ i : Nat, i ≤ 8 ∧ iv = .int .i64 i ∧ Hid (Brow wr w2.heap.size 78 (digRow s i)) ∧ Hid (Below w.heap.size w wr)) (fun iv _ => 8 - (intOf iv).toNat)
  case atStart => exact ⟨0, by omega, rfl, hid_of (heap_alloc_new _ _), hid_of (HK2.out.alloc HK2.out.size _)⟩
  case round =>
    obtain ⟨i, hi, rfl, hrow, hbel⟩ := hrel
    by_cases hlt : i < 8
    · obtain ⟨mm, hmm⟩ : ∃ mm, mm = 4 * i := ⟨_, rfl⟩
      have sm : 4 * (i : Int) = (mm : Int) := by omega
      have bm : (mm : Int) ≤ 32 := by omega
      have nm : ¬ (32 = mm) := by omega
      have hm28 : mm ≤ 28 := by omega
      obtain ⟨x, hx⟩ : ∃ x, x = (WSof s).getD i 0 := ⟨_, rfl⟩
      have hix := ws_idx s i hlt
      rw [← hx] at hix
      have HX := hid_of hx
      have HMM := hid_of hmm
      have HP := hid_of (putWord_any w2.heap.size 78 mm (32 - mm) (32 - mm) (digRow s i) x wr hrow.out (by rw [digRow_len s i hi]; omega) (by omega) (by omega) (by rw [hx]; exact wsof_w s HOK.out i))
      clear hx hmm
      go_wp2_with (go_at_call 47; refine HP.out.mono ?_; rintro e w3 ⟨rfl, h3, hk3⟩; have H3 := hid_of h3; have HB3 := hid_of (hbel.out.trans (hk3.below hbel.out.size (fun k hk => by have := HK2.out.size; omega))); clear h3 hk3)
      go_roundw
      case rel =>
        refine ⟨i + 1, by omega, by go_num, hid_of ?_, HB3⟩
        rw [← digRow_step s i hlt, ← HX.out, ← HMM.out]
        exact H3.out
      case measure => simp [intOf]; omega
    · obtain rfl : i = 8 := by omega
      have HROW : Hid (Brow wr w2.heap.size 78 (digestOf s)) := hrow
      go_wp2_with (refine wpList_str _ rfl 22 9 (.tmp 23) rfl 5 Tryd.underlying22 Tryd.underlying5 Tryd.underlying9 (some ⟨w2.heap.size, 0, none⟩) (digestOf s) 32 32 rfl rfl (fun _ => ⟨_, rfl, fun j u hu => by rw [Addr.add_mid, Nat.zero_add, cell_of_row _ _ _ _ _ _ HROW.out]; simpa using hu⟩) ?_)
      go_ret
      exact ⟨by rw [HD.out]; rfl, hbel.out⟩

/-- The slice v reads as l. -/
def Lies (w : World) (v : Value) (l : List Int) : Prop :=
  ∃ ao cap, v = .slice ao l.length cap ∧ l.length ≤ cap ∧ cap ≤ 9223372036854775807 ∧ (0 < l.length → ∃ g o, ao = some ⟨g, o, none⟩ ∧ g < w.heap.size ∧ ∀ j u, (bs l)[j]? = some u → w.cell? ⟨g, o + j, none⟩ = some u)
theorem Lies.later {w w' : World} {v : Value} {l : List Int} {B : Nat} (h : Lies w v l) (hb : Below B w w') (hB : w.heap.size ≤ B) : Lies w' v l := by
  obtain ⟨ao, cap, h1, h2, h3, h4⟩ := h
  refine ⟨ao, cap, h1, h2, h3, fun h0 => ?_⟩
  obtain ⟨g, o, q1, q2, q3⟩ := h4 h0
  exact ⟨g, o, q1, Nat.lt_of_lt_of_le q2 hb.size, fun j u hu => (hb.cell (p := ⟨g, o + j, none⟩) (by show g < B; omega)).trans (q3 j u hu)⟩
theorem Lies.rest {w w' : World} {v : Value} {l : List Int} {b : Nat} (h : Lies w v l) (hb : Below w.heap.size w w') (hg : w.heap.size ≤ b) : Rest w' b v l := by
  obtain ⟨ao, cap, h1, h2, h3, h4⟩ := h
  refine ⟨ao, cap, h1, h2, h3, fun h0 => ?_⟩
  obtain ⟨g, o, q1, q2, q3⟩ := h4 h0
  exact ⟨g, o, q1, by omega, Nat.lt_of_lt_of_le q2 hb.size, fun j u hu => (hb.cell (p := ⟨g, o + j, none⟩) q2).trans (q3 j u hu)⟩

set_option maxRecDepth 100000 in
theorem sumf_any (v : Value) (l : List Int) (w : World) (h : Lies w v l) (hl : ∀ y ∈ l, 0 ≤ y ∧ y ≤ 255) (hG : Glob w) (hn : l.length ≤ 100000000000) :
    Calls Tryd.prog 24 #[v] w fun e w' => e = .returned (.string (strOfNums (digest l))) ∧ Below w.heap.size w w' := by
  have H := hid_of h
  have HL := hid_of hl
  have HG := hid_of hG
  have H2 : Hid (2 ≤ w.heap.size) := hid_of hG.two
  clear h hl hG
  go_enter Tryd.func24, Tryd.ntmps24
  go_wp2_with (first
    | (go_at_call 37; refine (new_any w HG.out).mono ?_; rintro e w1 ⟨rfl, h1, hb1⟩; have H1 := hid_of h1; have HB1 := hid_of hb1; clear h1 hb1)
    | (go_at_call 38; refine (write_any w.heap.size [] l v w1 H1.out (H.out.rest HB1.out (Nat.le_refl _)) HL.out (HG.out.bel HB1.out H2.out) H2.out (by simp; omega)).mono ?_; rintro e w2 ⟨rfl, h2, hk2⟩; have HS2 := hid_of h2; have HB2 := hid_of (HB1.out.trans (hk2.below HB1.out.size (fun k hk => by omega))); clear h2 hk2)
    | (go_at_call 39; refine (sum_any w.heap.size l w2 HS2.out (HG.out.bel HB2.out H2.out) hn).mono ?_; rintro e w3 ⟨rfl, hb3⟩; have HB3 := hid_of (HB2.out.trans (hb3.mono HB2.out.size)); clear hb3))
  go_ret
  exact ⟨rfl, HB3.out⟩
end Go.Proofs.YtogfgcihhnblkaaDoor
