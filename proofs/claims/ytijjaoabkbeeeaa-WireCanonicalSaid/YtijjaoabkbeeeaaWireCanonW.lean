/- The walk of WireCanonical. No condition. -/
import Derived.Test.YtijjaoabkbeeeaaWireReadsW
namespace Go.Proofs.Ytijjaoabkbeeeaa
open Go.RowKit

theorem decAt_canon : ∀ (f i acc : Nat) (l : List Int) (n k : Nat), f + i = 10 → (∀ y ∈ l, 0 ≤ y ∧ y ≤ 255) → decAt f i acc l = some (n, k) → ∃ q, n = acc + q * 128 ^ i ∧ i < k ∧ l.take (k - i) = enc q ∧ (0 < q ∨ i = 0) := by
  intro f
  induction f with
  | zero => intro i acc l n k _ _ h; cases h
  | succ f ih =>
    intro i acc l n k hf hr h
    cases l with
    | nil => cases h
    | cons y r =>
      have hy := hr y (by simp)
      rw [decAt] at h
      split at h
      · rename_i h128
        obtain ⟨q, h1, h2, h3, h4⟩ := ih (i + 1) _ r n k (by omega) (fun z hz => hr z (by simp [hz])) h
        have hq : 0 < q := by omega
        refine ⟨(y - 128).toNat + q * 128, ?_, by omega, ?_, Or.inl (by omega)⟩
        · rw [h1, Nat.add_mul, Nat.pow_succ, Nat.mul_assoc q 128, Nat.mul_comm 128 (128 ^ i)]
          omega
        · have hk : k - i = (k - (i + 1)) + 1 := by omega
          rw [hk, List.take_succ_cons, h3, enc_ge (n := (y - 128).toNat + q * 128) (by omega)]
          congr 1
          · omega
          · congr 1; omega
      · split at h
        · rename_i h128 hm
          simp only [Option.some.injEq, Prod.mk.injEq] at h
          obtain ⟨rfl, rfl⟩ := h
          refine ⟨y.toNat, rfl, by omega, ?_, ?_⟩
          · rw [show i + 1 - i = 1 by omega, enc_lt (by omega)]
            simp; omega
          · unfold mayEnd at hm
            by_cases h0 : i = 0
            · exact Or.inr h0
            · simp [h0] at hm
              left
              have := hm.1
              omega
        · cases h

theorem dec_canon {l : List Int} {n k : Nat} (hr : ∀ y ∈ l, 0 ≤ y ∧ y ≤ 255) (h : dec l = some (n, k)) : l.take k = enc n := by
  obtain ⟨q, h1, _, h3, _⟩ := decAt_canon 10 0 0 l n k (by omega) hr h
  have : n = q := by rw [h1]; simp
  rw [this]; simpa using h3
theorem dec_whole {l : List Int} {n : Nat} (hr : ∀ y ∈ l, 0 ≤ y ∧ y ≤ 255) (h : dec l = some (n, l.length)) : enc n = l := by
  have := dec_canon hr h
  rw [List.take_length] at this
  exact this.symm
theorem zig_unzig (n : Nat) : zig (unzig n) = n := by
  unfold zig unzig
  by_cases h : n % 2 = 0
  · rw [if_pos h, if_pos (by omega)]; omega
  · rw [if_neg h, if_neg (by omega)]; omega

theorem canon_src {w w1 : World} {to : Option Addr} {tl : List Int} (h : 0 < tl.length → ∃ ad, to = some ad ∧ ad.block < w.heap.size ∧ ∀ j u, (bs tl)[j]? = some u → w.cell? (ad.add j) = some u) (hb : Below w.heap.size w w1) :
    0 < tl.length → ∃ ad, to = some ad ∧ ∀ j u, (bs tl)[j]? = some u → w1.cell? (ad.add j) = some u := fun h0 => by
  obtain ⟨ad, h1, h2, h3⟩ := h h0
  refine ⟨ad, h1, fun j u hu => ?_⟩
  rw [hb.cell (by rw [add_block]; exact h2)]
  exact h3 j u hu

theorem canon_box {w : World} {b g off last : Nat} {d : List Int} {err : Int} (h : Rst w b g d off last err) (o : Obj) : Rst (w.alloc o) b g d off last err :=
  h.same (Below.heap_alloc _ _ _ h.blt) (Below.heap_alloc _ _ _ h.glt)
theorem canon_row {w w6 : World} {b : Nat} {o : Obj} (hb : b < w.heap.size) (hk : Kept (fun k => k = b) (w.alloc o) w6) : w6.heap[w.heap.size]? = some o :=
  (hk.block w.heap.size (by simp) (by omega)).trans (heap_alloc_new w o)
theorem canon_free {w : World} {g t : Nat} {cs : Array Value} (j : Nat) (h : w.heap[g]? = some (.cells cs t (0, 0))) : w.frozen? ⟨g, j, none⟩ = false := by simp [World.frozen?, h]

/-- Where the walk stands ahead of the last test: the Reader at the end, the item in its box. -/
def Stand (w w7 : World) (b g box : Nat) (d : List Int) (off : Nat) (cs : Array Value) : Prop :=
  (∃ last, Rst w7 b g d off last 0) ∧ w7.heap[box]? = some (.cells cs 32 (0, 0)) ∧ Below w.heap.size w w7
theorem reads_rto {w w1 w5 w6 : World} {b g off last : Nat} {d : List Int} {o : Obj} (h1 : Below w.heap.size w w1) (h5 : Below w1.heap.size w1 w5) (hb : w1.heap.size ≤ b) (h6 : RTo (w5.alloc o) w6 b g d off last 0) :
    Rst w6 b g d off last 0 ∧ Below w.heap.size w w6 ∧ w.heap.size ≤ w5.heap.size := by
  have h15 := h1.trans (h5.mono h1.size)
  exact ⟨h6.1, (h15.alloc h15.size o).trans (h6.2.1.below (by have := h15.size; simp; omega) (fun k hk => by have := h1.size; omega)), h15.size⟩
theorem canon_set {w w6 : World} {b g off last box : Nat} {d : List Int} {j : Nat} {u : Value} {cs0 cs : Array Value} (h : Rst w6 b g d off last 0 ∧ Below w.heap.size w w6 ∧ w.heap.size ≤ box) (hx : w6.heap[box]? = some (.cells cs0 32 (0, 0)))
    (hc : cs0.setIfInBounds j u = cs) : Stand w (w6.setCell ⟨box, j, none⟩ u) b g box d off cs := by
  have hlt := lt_of_block hx
  have hnb : b ≠ box := fun e => by have := h.1.blk; rw [e, hx] at this; cases this
  have hng : g ≠ box := fun e => by have := h.1.row; rw [e, hx] at this; cases this
  refine ⟨⟨last, h.1.same (Below.heap_setCell _ _ _ _ hnb) (Below.heap_setCell _ _ _ _ hng)⟩, ?_, h.2.1.setCell h.2.2 _⟩
  have h' : w6.heap[box] = .cells cs0 32 (0, 0) := by simpa [Array.getElem?_eq_getElem hlt] using hx
  show (w6.heap.modify box _)[box]? = _
  rw [Array.getElem?_eq_getElem (by simpa using hlt), Array.getElem_modify_self, h', ← hc]
  rfl

set_option maxRecDepth 100000 in
set_option maxHeartbeats 1600000 in
theorem canon0 (to : Option Addr) (tl : List Int) (tcap : Nat) (w : World) (ht : tl.length ≤ 4000) (htr : ∀ y ∈ tl, 0 ≤ y ∧ y ≤ 255) (n : Nat) (hd : dec tl = some (n, tl.length))
    (hts : 0 < tl.length → ∃ ad, to = some ad ∧ ad.block < w.heap.size ∧ ∀ j u, (bs tl)[j]? = some u → w.cell? (ad.add j) = some u) :
    Calls Try.prog 5 #[.slice to tl.length tcap, .int .i64 0] w fun e w' => e = .returned (.bool true) ∧ Below w.heap.size w w' := by
  have HT := hid_of htr
  have HTS := hid_of hts
  have HD := hid_of hd
  have HDL : Hid (tl.length ≤ 140737488351232) := hid_of (by omega)
  clear htr hts hd
  go_enter Try.func5, Try.ntmps5
  go_wp2_with (first
    | (go_at_call 10; refine (awake_any w).mono ?_; rintro e w1 ⟨rfl, h1⟩; have H1 := hid_of h1; clear h1)
    | (go_at_call 14; refine (newReader_n to tl tl.length tcap w1 rfl HT.out HDL.out (canon_src HTS.out H1.out)).mono ?_; rintro e w5 ⟨b, g, rfl, h5, hb5, hbb, _⟩; have H5 := hid_of h5; have HB5 := hid_of hb5; have HBB := hid_of hbb; clear h5 hb5 hbb)
    | (go_at_call 20; refine (ruint_ok b g 0 0 n tl.length tl _ (canon_box H5.out _) HD.out).mono ?_; rintro e w6 ⟨rfl, h6⟩; have hbx := canon_row (lt_of_block H5.out.blk) h6.2.1; have cB := cell_of_row _ _ 1 _ _ _ hbx; have fB := canon_free 1 hbx; have HX := hid_of hbx; have H6 := hid_of h6; clear h6 hbx))
  have HW := hid_of (canon_set (j := 1) (u := .int .u64 n) (cs := #[.int .i64 0, .int .u64 n, .slice none 0 0]) (reads_rto H1.out HB5.out HBB.out H6.out) HX.out rfl)
  clear cB fB
  generalize w6.setCell ⟨w5.heap.size, 1, none⟩ (.int .u64 n) = w7 at *
  obtain ⟨⟨last, hR7⟩, hx7, hb7⟩ := HW.out
  have HR7 := hid_of hR7
  have q0 := cell_of_row _ _ 0 _ _ _ hx7
  have q1 := cell_of_row _ _ 1 _ _ _ hx7
  have q2 := cell_of_row _ _ 2 _ _ _ hx7
  have cvb0 : ∀ k, (convert 25 9 (.slice to tl.length tcap)).run Try.prog (w7.drewN k) = .ok (.string (strOfNums tl)) (w7.drewN k) := fun k => conv_src (canon_src HTS.out (below_drewN hb7 k))
  have cvb1 : ∀ k o, (convert 25 9 (.slice to tl.length tcap)).run Try.prog ((w7.drewN k).alloc o) = .ok (.string (strOfNums tl)) ((w7.drewN k).alloc o) := fun k o => conv_src (canon_src HTS.out ((below_drewN hb7 k).alloc hb7.size o))
  have HB7 := hid_of hb7
  have HE : Hid (encIt ⟨0, n, none, [], 0⟩ = tl) := hid_of (by rw [encIt0]; exact dec_whole HT.out HD.out)
  have HN : Hid (n < 18446744073709551616) := hid_of (dec_bound HT.out HD.out).2.2.2
  clear hR7 hx7 hb7
  go_region_with (first
    | (go_at_call 19; refine (end_ok b g _ last tl _ (HR7.out.drewN 1) (by omega)).mono ?_; rintro e w' ⟨rfl, m8, rfl⟩)
    | (go_at_call 12; refine (written_one 0 n tl.length tl (w7.drewN (1 + m8)) HN.out HE.out rfl).mono ?_; rintro e w8 ⟨g8, rfl, hr8, _, hb8⟩; have cv8 := conv_row hr8; have cvb8 := conv_src (cap := tcap) (canon_src HTS.out ((below_drewN HB7.out (1 + m8)).trans (hb8.mono HB7.out.size))); have HB8 := hid_of hb8; clear hr8 hb8))
  all_goals go_wp2
  all_goals go_ret
  all_goals exact ⟨rfl, (below_drewN HB7.out (1 + m8)).trans (HB8.out.mono HB7.out.size)⟩

end Go.Proofs.Ytijjaoabkbeeeaa
