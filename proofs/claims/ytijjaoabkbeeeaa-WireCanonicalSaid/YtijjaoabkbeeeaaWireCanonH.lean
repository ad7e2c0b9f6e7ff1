/- The walk of WireCanonical: every other kind (a text), and the law as a whole. No condition. -/
import Derived.Test.YtijjaoabkbeeeaaWireCanonG
import Derived.Laws.IdiomStrings
namespace Go.Proofs.Ytijjaoabkbeeeaa
open Go.RowKit

section
variable {P : Program} (w : World)

theorem wpList_bytes {ops : Array Oper} {rest : List Oper} {o : Oper} {a : Act} {Q : Exit → Act → World → Prop} (hgd : o.guard = none) (src dst : TypeId) (x : Operand) (ho : o.op = .convert src dst x) (e : TypeId)
    (hs : P.underlying src = some .string) (hd : P.underlying dst = some (.slice e)) (he : P.underlying e = some (.int .u8)) (l : List Int) (hr : ∀ y ∈ l, 0 ≤ y ∧ y ≤ 255) (hx : a.eval x = .string (strOfNums l))
    (h : ∀ cap w1, Below w.heap.size w w1 → (∀ j u, (bs l)[j]? = some u → w1.cell? ⟨w.heap.size, j, none⟩ = some u) → w.heap.size + 1 = w1.heap.size →
      wpList P ops Q rest (a.put o.dst (.slice (some ⟨w.heap.size, 0, none⟩) l.length cap)) w1) : wpList P ops Q (o :: rest) a w := by
  refine wpList_plain hgd fun _ hK => ?_
  have hrun := run_bytes_of_string (P := P) w src dst e (strOfNums l) hs hd he
  unfold Oper.wp execOp
  simp only [ho, hx, Sem.run_bind, hrun, Result.andThen_ok, Sem.run_pure]
  refine hK _ _ ?_
  rw [strOfNums_size]
  refine h _ _ ?_ ?_ ?_
  · exact ((Below.refl _ _).drew).alloc (Nat.le_refl _) _
  · intro j u hu
    have hj : j < l.length := by
      have := (List.getElem?_eq_some_iff.1 hu).1
      simpa [bs] using this
    have hc := bytesRow_at (strOfNums l) (grownCap w l.length 0 e) j (by simpa [strOfNums] using hj)
    have hw : (w.drew.alloc (.cells (bytesRow (strOfNums l) (grownCap w l.length 0 e)) e ((bytesRow (strOfNums l) (grownCap w l.length 0 e)).size, (bytesRow (strOfNums l) (grownCap w l.length 0 e)).size + 1))).heap[w.heap.size]? =
        some (.cells (bytesRow (strOfNums l) (grownCap w l.length 0 e)) e ((bytesRow (strOfNums l) (grownCap w l.length 0 e)).size, (bytesRow (strOfNums l) (grownCap w l.length 0 e)).size + 1)) := heap_alloc_new w.drew _
    rw [cell_of_row _ _ _ _ _ _ hw, hc]
    simp only [bs, List.getElem?_map, List.getElem?_eq_getElem hj, Option.map_some, Option.some.injEq] at hu
    rw [← hu]
    have hb := hr _ (List.getElem_mem hj)
    simp [strOfNums]
    omega
  · show w.heap.size + 1 = (w.heap.push _).size
    rw [Array.size_push]
end

theorem rst_bel {w6 w7 : World} {b g off last : Nat} {d : List Int} {err : Int} (h : Rst w6 b g d off last err) (hb : Below w6.heap.size w6 w7) : Rst w7 b g d off last err :=
  h.same (hb.block b h.blt) (hb.block g h.glt)
theorem rtq_ok (b g k n : Nat) (tl q : List Int) (w : World) (h : Rst w b g tl 0 0 0) (hd : decRun tl = some (k, n)) (hq : q = (tl.drop (0 + k)).take n) :
    Calls Try.prog 24 #[.pointer (some ⟨b, 0, none⟩)] w fun e w' => e = .returned (.string (strOfNums q)) ∧ RTo w w' b g tl (0 + k + n) 0 0 := by
  subst hq; exact rtext_ok b g 0 0 k n tl w h hd
theorem rtq_bad (b g : Nat) (tl q : List Int) (w : World) (h : Rst w b g tl 0 0 0) (hd : decRun tl = none) (hq : q = []) :
    Calls Try.prog 24 #[.pointer (some ⟨b, 0, none⟩)] w fun e w' => e = .returned (.string (strOfNums q)) ∧ RTo w w' b g tl 0 0 2 := by
  subst hq; exact rtext_bad b g 0 0 tl w h hd
theorem rto_bel7 {w w1 w5 w6 w7 : World} {b : Nat} {o : Obj} (h1 : Below w.heap.size w w1) (h5 : Below w1.heap.size w1 w5) (hb : w1.heap.size ≤ b) (h6 : Kept (fun k => k = b) (w5.alloc o) w6) (h7 : Below w6.heap.size w6 w7) :
    Below w.heap.size w w7 ∧ w.heap.size ≤ w5.heap.size := by
  have h := rto_bel h1 h5 hb h6
  exact ⟨h.1.trans (h7.mono h.1.size), h.2⟩
theorem add0 (g j : Nat) : ((⟨g, 0, none⟩ : Addr).add j) = ⟨g, j, none⟩ := by rw [plain_add, Nat.zero_add]
theorem row_in7 {w8 : World} {g : Nat} {l : List Int} (hg : g < w8.heap.size) (h : ∀ j u, (bs l)[j]? = some u → w8.cell? ⟨g, j, none⟩ = some u) (k : Nat) :
    0 < l.length → ∃ ad, (some (⟨g, 0, none⟩ : Addr)) = some ad ∧ ad.block < (w8.drewN k).heap.size ∧ ∀ j u, (bs l)[j]? = some u → (w8.drewN k).cell? (ad.add j) = some u :=
  fun _ => ⟨_, rfl, hg, fun j u hu => by rw [add0]; exact h j u hu⟩
theorem cells_set {w7 : World} {g box j0 : Nat} {l : List Int} {v : Value} (hne : g ≠ box) (h : ∀ j u, (bs l)[j]? = some u → w7.cell? ⟨g, j, none⟩ = some u) :
    ∀ j u, (bs l)[j]? = some u → (w7.setCell ⟨box, j0, none⟩ v).cell? ⟨g, j, none⟩ = some u := fun j u hu =>
  (World.cell?_of_block (a := ⟨g, j, none⟩) (Below.heap_setCell _ _ _ _ hne)).trans (h j u hu)

set_option maxRecDepth 100000 in
set_option maxHeartbeats 800000 in
theorem canon4_bad (to : Option Addr) (tl : List Int) (tcap : Nat) (kind : Int) (w : World) (ht : tl.length ≤ 4000) (htr : ∀ y ∈ tl, 0 ≤ y ∧ y ≤ 255) (k0 : kind ≠ 0) (k1 : kind ≠ 1) (k2 : kind ≠ 2) (k3 : kind ≠ 3)
    (err : Int) (off : Nat) (q : List Int) (hqr : ∀ y ∈ q, 0 ≤ y ∧ y ≤ 255) (herr : err = 2 ∨ (err = 0 ∧ off ≠ tl.length))
    (hcall : ∀ W b g, Rst W b g tl 0 0 0 → Calls Try.prog 24 #[.pointer (some ⟨b, 0, none⟩)] W fun e w' => e = .returned (.string (strOfNums q)) ∧ RTo W w' b g tl off 0 err)
    (hts : 0 < tl.length → ∃ ad, to = some ad ∧ ad.block < w.heap.size ∧ ∀ j u, (bs tl)[j]? = some u → w.cell? (ad.add j) = some u) :
    Calls Try.prog 5 #[.slice to tl.length tcap, .int .i64 kind] w fun e w' => e = .returned (.bool true) ∧ Below w.heap.size w w' := by
  have HT := hid_of htr
  have HTS := hid_of hts
  have HCALL := hid_of hcall
  have HQR := hid_of hqr
  have HERR := hid_of herr
  have HDL : Hid (tl.length ≤ 140737488351232) := hid_of (by omega)
  have e0 : (kind == 0) = false := by simp [k0]
  have e1 : (kind == 1) = false := by simp [k1]
  have e2 : (kind == 2) = false := by simp [k2]
  have e3 : (kind == 3) = false := by simp [k3]
  clear htr hts hcall hqr herr k0 k1 k2 k3
  go_enter Try.func5, Try.ntmps5
  go_wp2_with (first
    | (go_at_call 10; refine (awake_any w).mono ?_; rintro e w1 ⟨rfl, h1⟩; have H1 := hid_of h1; clear h1)
    | (go_at_call 14; refine (newReader_n to tl tl.length tcap w1 rfl HT.out HDL.out (canon_src HTS.out H1.out)).mono ?_; rintro e w5 ⟨b, g, rfl, h5, hb5, hbb, _⟩; have H5 := hid_of h5; have HB5 := hid_of hb5; have HBB := hid_of hbb; clear h5 hb5 hbb)
    | (go_at_call 24; refine (HCALL.out _ b g (canon_box H5.out _)).mono ?_; rintro e w6 ⟨rfl, hR6, hK6, hsz⟩; clear hsz; have hbx := canon_row (lt_of_block H5.out.blk) hK6; have HX6 := hid_of hbx; have HR6 := hid_of hR6; have HK6 := hid_of hK6; clear hR6 hK6 hbx)
    | (with_reducible refine wpList_bytes _ rfl 9 25 _ rfl 5 Try.underlying9 Try.underlying25 Try.underlying5 q HQR.out rfl ?_; intro cap7 w7 hb7 hc7 hz7; have hx7 := (hb7.block _ (lt_of_block HX6.out)).trans HX6.out; have cB := cell_of_row _ _ 2 _ _ _ hx7; have fB := canon_free 2 hx7; have HX := hid_of hx7; have HR7 := hid_of (rst_bel HR6.out hb7); have HB67 := hid_of hb7; clear hx7 hb7 hc7 hz7))
  have hB := rto_bel7 H1.out HB5.out HBB.out HK6.out HB67.out
  have HR8 := hid_of (rst_set (j := 2) (u := .slice (some ⟨w6.heap.size, 0, none⟩) q.length cap7) HR7.out HX.out)
  have HB8 := hid_of (hB.1.setCell (p := ⟨w5.heap.size, 2, none⟩) hB.2 (.slice (some ⟨w6.heap.size, 0, none⟩) q.length cap7))
  clear cB fB hB
  generalize w7.setCell ⟨w5.heap.size, 2, none⟩ (.slice (some ⟨w6.heap.size, 0, none⟩) q.length cap7) = w8 at *
  go_quiet ((go_at_call 19; exact Calls.quiet_of (end_bad b g off _ tl err _ (HR8.out.drewN _) HERR.out)))
  go_wp2
  go_ret
  exact ⟨rfl, below_drewN HB8.out _⟩

set_option maxRecDepth 100000 in
set_option maxHeartbeats 1600000 in
theorem canon4 (to : Option Addr) (tl : List Int) (tcap : Nat) (kind : Int) (w : World) (ht : tl.length ≤ 4000) (htr : ∀ y ∈ tl, 0 ≤ y ∧ y ≤ 255) (k0 : kind ≠ 0) (k1 : kind ≠ 1) (k2 : kind ≠ 2) (k3 : kind ≠ 3)
    (k n : Nat) (hd : decRun tl = some (k, n)) (hk : k + n = tl.length)
    (hts : 0 < tl.length → ∃ ad, to = some ad ∧ ad.block < w.heap.size ∧ ∀ j u, (bs tl)[j]? = some u → w.cell? (ad.add j) = some u) :
    Calls Try.prog 5 #[.slice to tl.length tcap, .int .i64 kind] w fun e w' => e = .returned (.bool true) ∧ Below w.heap.size w w' := by
  obtain ⟨q, hq⟩ : ∃ q, q = (tl.drop (0 + k)).take n := ⟨_, rfl⟩
  have HQ := hid_of hq
  have hql : q.length ≤ 4000 := by rw [hq, List.length_take, List.length_drop]; omega
  have HQR : Hid (∀ y ∈ q, 0 ≤ y ∧ y ≤ 255) := hid_of (by rw [hq]; exact fun y hy => htr y (List.mem_of_mem_drop (List.mem_of_mem_take hy)))
  have HE : Hid (∀ ao cap, encIt ⟨kind, 0, ao, q, cap⟩ = tl) := hid_of fun ao cap => by rw [hq]; exact (enc3 kind ao cap k0 k1 k2 htr hd hk).1
  clear hq
  have HT := hid_of htr
  have HTS := hid_of hts
  have HD := hid_of hd
  have HDL : Hid (tl.length ≤ 140737488351232) := hid_of (by omega)
  have HQL := hid_of hql
  have HN : Hid (0 < 18446744073709551616) := hid_of (by omega)
  have hk2 : 0 + k + n ≤ tl.length := by omega
  have hk3 : tl.length ≤ 0 + k + n := by omega
  have e0 : (kind == 0) = false := by simp [k0]
  have e1 : (kind == 1) = false := by simp [k1]
  have e2 : (kind == 2) = false := by simp [k2]
  have e3 : (kind == 3) = false := by simp [k3]
  clear hk htr hts hd k0 k1 k2 k3
  go_enter Try.func5, Try.ntmps5
  go_wp2_with (first
    | (go_at_call 10; refine (awake_any w).mono ?_; rintro e w1 ⟨rfl, h1⟩; have H1 := hid_of h1; clear h1)
    | (go_at_call 14; refine (newReader_n to tl tl.length tcap w1 rfl HT.out HDL.out (canon_src HTS.out H1.out)).mono ?_; rintro e w5 ⟨b, g, rfl, h5, hb5, hbb, _⟩; have H5 := hid_of h5; have HB5 := hid_of hb5; have HBB := hid_of hbb; clear h5 hb5 hbb)
    | (go_at_call 24; refine (rtq_ok b g k n tl q _ (canon_box H5.out _) HD.out HQ.out).mono ?_; rintro e w6 ⟨rfl, hR6, hK6, hsz⟩; clear hsz; have hbx := canon_row (lt_of_block H5.out.blk) hK6; have HX6 := hid_of hbx; have HR6 := hid_of hR6; have HK6 := hid_of hK6; clear hR6 hK6 hbx)
    | (with_reducible refine wpList_bytes _ rfl 9 25 _ rfl 5 Try.underlying9 Try.underlying25 Try.underlying5 q HQR.out rfl ?_; intro cap7 w7 hb7 hc7 hz7; have hx7 := (hb7.block _ (lt_of_block HX6.out)).trans HX6.out; have cB := cell_of_row _ _ 2 _ _ _ hx7; have fB := canon_free 2 hx7; have HX := hid_of hx7; have HR7 := hid_of (rst_bel HR6.out hb7); have HB67 := hid_of hb7; have HC7 := hid_of hc7; have HLT7 : Hid (w6.heap.size < w7.heap.size) := hid_of (by omega); clear hx7 hb7 hc7 hz7))
  have hB := rto_bel7 H1.out HB5.out HBB.out HK6.out HB67.out
  have HW := hid_of (canon_set (j := 2) (u := .slice (some ⟨w6.heap.size, 0, none⟩) q.length cap7) (cs := #[.int .i64 kind, .int .u64 0, .slice (some ⟨w6.heap.size, 0, none⟩) q.length cap7]) ⟨HR7.out, hB⟩ HX.out rfl)
  have HROW := hid_of (cells_set (j0 := 2) (v := .slice (some ⟨w6.heap.size, 0, none⟩) q.length cap7) (show w6.heap.size ≠ w5.heap.size from fun e => by have := lt_of_block HX6.out; omega) HC7.out)
  have HLT : Hid (w6.heap.size < (w7.setCell ⟨w5.heap.size, 2, none⟩ (.slice (some ⟨w6.heap.size, 0, none⟩) q.length cap7)).heap.size) := hid_of (by show _ < (w7.heap.modify _ _).size; rw [Array.size_modify]; exact HLT7.out)
  clear cB fB hB
  generalize w7.setCell ⟨w5.heap.size, 2, none⟩ (.slice (some ⟨w6.heap.size, 0, none⟩) q.length cap7) = w8 at *
  obtain ⟨⟨last, hR8⟩, hx8, hb8⟩ := HW.out
  have HR8 := hid_of hR8
  have q0 := cell_of_row _ _ 0 _ _ _ hx8
  have q1 := cell_of_row _ _ 1 _ _ _ hx8
  have q2 := cell_of_row _ _ 2 _ _ _ hx8
  have cvb0 : ∀ k, (convert 25 9 (.slice to tl.length tcap)).run Try.prog (w8.drewN k) = .ok (.string (strOfNums tl)) (w8.drewN k) := fun k => conv_src (canon_src HTS.out (below_drewN hb8 k))
  have cvb1 : ∀ k o, (convert 25 9 (.slice to tl.length tcap)).run Try.prog ((w8.drewN k).alloc o) = .ok (.string (strOfNums tl)) ((w8.drewN k).alloc o) := fun k o => conv_src (canon_src HTS.out ((below_drewN hb8 k).alloc hb8.size o))
  have HB8 := hid_of hb8
  clear hR8 hx8 hb8
  go_region_with (first
    | (go_at_call 19; refine (end_ok b g _ last tl _ (HR8.out.drewN 1) (by omega)).mono ?_; rintro e w' ⟨rfl, m8, rfl⟩)
    | (go_at_call 12; refine (written_oneB kind 0 q.length tl.length (some ⟨w6.heap.size, 0, none⟩) q tl cap7 (w8.drewN (1 + m8)) HN.out rfl HQL.out (fun h => by cases h) HQR.out (row_in7 HLT.out HROW.out _) (HE.out _ _) rfl).mono ?_; rintro e w9 ⟨g9, rfl, hr9, _, hb9⟩; have cv9 := conv_row hr9; have cvb9 := conv_src (cap := tcap) (canon_src HTS.out ((below_drewN HB8.out (1 + m8)).trans (hb9.mono HB8.out.size))); have HB9 := hid_of hb9; clear hr9 hb9))
  all_goals go_wp2
  all_goals go_ret
  all_goals exact ⟨rfl, (below_drewN HB8.out (1 + m8)).trans (HB9.out.mono HB8.out.size)⟩

theorem canon_law (a0 : Option Addr) (len0 cap0 : Nat) (a1 : Int) (z0 : List Int) (w : World) (w0 : IsRow .u8 w a0 len0 cap0 z0) :
    Calls Try.prog 5 #[.slice a0 len0 cap0, .int .i64 a1] w fun e w' => e = .returned (.bool true) ∧ Below w.heap.size w w' := by
  obtain ⟨tl, rfl, _, htn, htr, hts⟩ := w0.bytes
  by_cases ht : 4000 < tl.length
  · exact canon_long a0 tl.length cap0 a1 w ht
  have ht : tl.length ≤ 4000 := by omega
  by_cases k0 : a1 = 0
  · subst k0
    cases hd : dec tl with
    | none => exact canon0_bad a0 tl cap0 w ht htr hd hts
    | some p =>
      obtain ⟨n, k⟩ := p
      by_cases hk : k = tl.length
      · subst hk; exact canon0 a0 tl cap0 w ht htr n hd hts
      · exact canon0_left a0 tl cap0 w ht htr n k hd hk hts
  by_cases k1 : a1 = 1
  · subst k1
    cases hd : dec tl with
    | none => exact canon1_bad a0 tl cap0 w ht htr hd hts
    | some p =>
      obtain ⟨n, k⟩ := p
      by_cases hk : k = tl.length
      · subst hk; exact canon1 a0 tl cap0 w ht htr n hd hts
      · exact canon1_left a0 tl cap0 w ht htr n k hd hk hts
  by_cases k2 : a1 = 2
  · subst k2
    cases tl with
    | nil => exact canon2_bad a0 [] cap0 w ht htr (Or.inl (by simp)) hts
    | cons y r =>
      have hy := htr y (by simp)
      by_cases h1 : y = 1
      · subst h1
        cases r with
        | nil => exact canon2_1 a0 [1] cap0 w ht htr rfl hts
        | cons z s => exact canon2_left1 a0 (1 :: z :: s) cap0 w ht htr (z :: s) rfl (by simp) hts
      · by_cases h0 : y = 0
        · subst h0
          cases r with
          | nil => exact canon2_0 a0 [0] cap0 w ht htr rfl hts
          | cons z s => exact canon2_left0 a0 (0 :: z :: s) cap0 w ht htr (z :: s) rfl (by simp) hts
        · exact canon2_bad a0 (y :: r) cap0 w ht htr (Or.inr ⟨y, rfl, by omega⟩) hts
  by_cases k3 : a1 = 3
  · subst k3
    cases hd : decRun tl with
    | none => exact canon3_bad a0 tl cap0 w ht htr hd hts
    | some p =>
      obtain ⟨k, n⟩ := p
      by_cases hk : k + n = tl.length
      · exact canon3 a0 tl cap0 w ht htr k n hd hk hts
      · exact canon3_left a0 tl cap0 w ht htr k n hd hk hts
  cases hd : decRun tl with
  | none => exact canon4_bad a0 tl cap0 a1 w ht htr k0 k1 k2 k3 2 0 [] (by simp) (Or.inl rfl) (fun W b g h => rtq_bad b g tl [] W h hd rfl) hts
  | some p =>
    obtain ⟨k, n⟩ := p
    by_cases hk : k + n = tl.length
    · exact canon4 a0 tl cap0 a1 w ht htr k0 k1 k2 k3 k n hd hk hts
    · exact canon4_bad a0 tl cap0 a1 w ht htr k0 k1 k2 k3 0 (0 + k + n) ((tl.drop (0 + k)).take n) (fun y hy => htr y (List.mem_of_mem_drop (List.mem_of_mem_take hy))) (Or.inr ⟨rfl, by omega⟩) (fun W b g h => rtq_ok b g k n tl _ W h hd rfl) hts

end Go.Proofs.Ytijjaoabkbeeeaa
