/- The walk of WireCanonical: what is read whole. No condition. -/
import Derived.Test.YtijjaoabkbeeeaaWireCanonF
namespace Go.Proofs.Ytijjaoabkbeeeaa
open Go.RowKit

theorem uN_lt (n : Nat) : uN n < 18446744073709551616 := by unfold uN; omega

/-- What written gives at one item whose bytes lie in W. -/
theorem written_oneB (kind : Int) (n q L : Nat) (ao : Option Addr) (m l : List Int) (cap : Nat) (W : World) (hn : n < 18446744073709551616) (hq : m.length = q) (hm : m.length ≤ 4000) (hnil : ao = none → cap = 0) (hr : ∀ y ∈ m, 0 ≤ y ∧ y ≤ 255)
    (hs : 0 < m.length → ∃ ad, ao = some ad ∧ ad.block < W.heap.size ∧ ∀ j u, (bs m)[j]? = some u → W.cell? (ad.add j) = some u) (hl : encIt ⟨kind, n, ao, m, cap⟩ = l) (hL : l.length = L) :
    Calls Try.prog 12 #[.slice (some ⟨W.heap.size, 0, none⟩) 1 1] (W.alloc (.cells #[.int .i64 kind, .int .u64 n, .slice ao q cap] 32)) fun e w' => ∃ g, e = .returned (.slice (some ⟨g, 0, none⟩) L L) ∧
      w'.heap[g]? = some (.cells (bs l).toArray 5 (0, 0)) ∧ W.heap.size ≤ g ∧ Below W.heap.size W w' := by
  subst hq
  have hA : Below W.heap.size W (W.alloc (.cells #[.int .i64 kind, .int .u64 n, .slice ao m.length cap] 32)) := (Below.refl _ _).alloc (Nat.le_refl _) _
  have hc := fun j => cell_of_row _ W.heap.size j _ _ _ (heap_alloc_new W (.cells #[.int .i64 kind, .int .u64 n, .slice ao m.length cap] 32))
  have hI : Items (W.alloc (.cells #[.int .i64 kind, .int .u64 n, .slice ao m.length cap] 32)).heap.size (W.alloc (.cells #[.int .i64 kind, .int .u64 n, .slice ao m.length cap] 32)) W.heap.size 0 [⟨kind, n, ao, m, cap⟩] := by
    refine ⟨fun _ => by simp, ?_, ?_, ?_, ?_⟩
    · intro i x hx
      match i, hx with
      | 0, hx => simp at hx; subst hx; rw [hc]; rfl
    · intro i x hx
      match i, hx with
      | 0, hx => simp at hx; subst hx; rw [hc]; rfl
    · intro i x hx
      match i, hx with
      | 0, hx => simp at hx; subst hx; rw [hc]; rfl
    · intro x hx
      simp at hx
      subst hx
      refine ⟨hn, by simp only; omega, hnil, hr, fun h0 => ?_⟩
      obtain ⟨ad, h1, h2, h3⟩ := hs h0
      refine ⟨ad, h1, by simp; omega, fun j u hu => ?_⟩
      rw [hA.cell (by rw [add_block]; exact h2)]
      exact h3 j u hu
  have hb : ∀ k, (encAll ([(⟨kind, n, ao, m, cap⟩ : It)].take k)).length ≤ 60000000000000 := by
    intro k
    cases k with
    | zero => simp [encAll]
    | succ k =>
      have := encIt_le20 ⟨kind, n, ao, m, cap⟩ hn (by simp only; omega)
      rw [List.take_of_length_le (by simp), encAll_one]
      simp only at this
      omega
  refine (written_any W.heap.size 0 [⟨kind, n, ao, m, cap⟩] 1 _ hI (by simp) hb).mono fun e w' ⟨g, he, h1, h2, h3⟩ => ⟨g, ?_, ?_, ?_, ?_⟩
  · rw [he, encAll_one, hl, hL]
  · rw [h1, encAll_one, hl]
  · simp at h2; omega
  · exact hA.trans (h3.mono (by simp))

theorem written_20 (L : Nat) (l : List Int) (W : World) (hl : encIt ⟨2, 0, none, [], 0⟩ = l) (hL : l.length = L) :
    Calls Try.prog 12 #[.slice (some ⟨W.heap.size, 0, none⟩) 1 1] (W.alloc (.cells #[.int .i64 2, .int .u64 0, .slice none 0 0] 32)) fun e w' => ∃ g, e = .returned (.slice (some ⟨g, 0, none⟩) L L) ∧
      w'.heap[g]? = some (.cells (bs l).toArray 5 (0, 0)) ∧ W.heap.size ≤ g ∧ Below W.heap.size W w' := by
  have h := written_one 2 0 L l W (by omega) hl hL
  rw [show ((0 : Nat) : Int) = 0 from rfl] at h
  exact h

theorem bel_sta {w w1 w5 w6 : World} {b g off last : Nat} {d : List Int} {o : Obj} (h1 : Below w.heap.size w w1) (h5 : Below w1.heap.size w1 w5) (hb : w1.heap.size ≤ b) (hR : Rst w6 b g d off last 0) (h6 : Kept (fun k => k = b) (w5.alloc o) w6) :
    Rst w6 b g d off last 0 ∧ Below w.heap.size w w6 ∧ w.heap.size ≤ w5.heap.size := ⟨hR, rto_bel h1 h5 hb h6⟩

set_option maxRecDepth 100000 in
set_option maxHeartbeats 1600000 in
theorem canon1 (to : Option Addr) (tl : List Int) (tcap : Nat) (w : World) (ht : tl.length ≤ 4000) (htr : ∀ y ∈ tl, 0 ≤ y ∧ y ≤ 255) (n : Nat) (hd : dec tl = some (n, tl.length))
    (hts : 0 < tl.length → ∃ ad, to = some ad ∧ ad.block < w.heap.size ∧ ∀ j u, (bs tl)[j]? = some u → w.cell? (ad.add j) = some u) :
    Calls Try.prog 5 #[.slice to tl.length tcap, .int .i64 1] w fun e w' => e = .returned (.bool true) ∧ Below w.heap.size w w' := by
  have HT := hid_of htr
  have HTS := hid_of hts
  have HD := hid_of hd
  have HDL : Hid (tl.length ≤ 140737488351232) := hid_of (by omega)
  have HE : Hid (encIt ⟨1, uN n, none, [], 0⟩ = tl) := hid_of (by rw [encIt1, sgn_uN n (dec_bound htr hd).2.2.2, zig_unzig]; exact dec_whole htr hd)
  have HN : Hid (uN n < 18446744073709551616) := hid_of (uN_lt n)
  have hw := wrap_unzig n
  clear htr hts hd
  go_enter Try.func5, Try.ntmps5
  go_wp2_with (first
    | (go_at_call 10; refine (awake_any w).mono ?_; rintro e w1 ⟨rfl, h1⟩; have H1 := hid_of h1; clear h1)
    | (go_at_call 14; refine (newReader_n to tl tl.length tcap w1 rfl HT.out HDL.out (canon_src HTS.out H1.out)).mono ?_; rintro e w5 ⟨b, g, rfl, h5, hb5, hbb, _⟩; have H5 := hid_of h5; have HB5 := hid_of hb5; have HBB := hid_of hbb; clear h5 hb5 hbb)
    | (go_at_call 21; refine (rint_ok b g 0 0 n tl.length tl _ (canon_box H5.out _) HD.out).mono ?_; rintro e w6 ⟨rfl, hR6, hK6, hsz⟩; clear hsz; have hbx := canon_row (lt_of_block H5.out.blk) hK6; have cB := cell_of_row _ _ 1 _ _ _ hbx; have fB := canon_free 1 hbx; have HX := hid_of hbx; have HR6 := hid_of hR6; have HK6 := hid_of hK6; clear hR6 hK6 hbx))
  have HW := hid_of (canon_set (j := 1) (u := .int .u64 (uN n)) (cs := #[.int .i64 1, .int .u64 (uN n), .slice none 0 0]) (bel_sta H1.out HB5.out HBB.out HR6.out HK6.out) HX.out rfl)
  clear cB fB
  generalize w6.setCell ⟨w5.heap.size, 1, none⟩ (.int .u64 (uN n)) = w7 at *
  obtain ⟨⟨last, hR7⟩, hx7, hb7⟩ := HW.out
  have HR7 := hid_of hR7
  have q0 := cell_of_row _ _ 0 _ _ _ hx7
  have q1 := cell_of_row _ _ 1 _ _ _ hx7
  have q2 := cell_of_row _ _ 2 _ _ _ hx7
  have cvb0 : ∀ k, (convert 25 9 (.slice to tl.length tcap)).run Try.prog (w7.drewN k) = .ok (.string (strOfNums tl)) (w7.drewN k) := fun k => conv_src (canon_src HTS.out (below_drewN hb7 k))
  have cvb1 : ∀ k o, (convert 25 9 (.slice to tl.length tcap)).run Try.prog ((w7.drewN k).alloc o) = .ok (.string (strOfNums tl)) ((w7.drewN k).alloc o) := fun k o => conv_src (canon_src HTS.out ((below_drewN hb7 k).alloc hb7.size o))
  have HB7 := hid_of hb7
  clear hR7 hx7 hb7
  go_region_with (first
    | (go_at_call 19; refine (end_ok b g _ last tl _ (HR7.out.drewN 1) (by omega)).mono ?_; rintro e w' ⟨rfl, m8, rfl⟩)
    | (go_at_call 12; refine (written_one 1 (uN n) tl.length tl (w7.drewN (1 + m8)) HN.out HE.out rfl).mono ?_; rintro e w8 ⟨g8, rfl, hr8, _, hb8⟩; have cv8 := conv_row hr8; have cvb8 := conv_src (cap := tcap) (canon_src HTS.out ((below_drewN HB7.out (1 + m8)).trans (hb8.mono HB7.out.size))); have HB8 := hid_of hb8; clear hr8 hb8))
  all_goals go_wp2
  all_goals go_ret
  all_goals exact ⟨rfl, (below_drewN HB7.out (1 + m8)).trans (HB8.out.mono HB7.out.size)⟩

set_option maxRecDepth 100000 in
set_option maxHeartbeats 1600000 in
theorem canon2_1 (to : Option Addr) (tl : List Int) (tcap : Nat) (w : World) (ht : tl.length ≤ 4000) (htr : ∀ y ∈ tl, 0 ≤ y ∧ y ≤ 255) (hd : tl = [1])
    (hts : 0 < tl.length → ∃ ad, to = some ad ∧ ad.block < w.heap.size ∧ ∀ j u, (bs tl)[j]? = some u → w.cell? (ad.add j) = some u) :
    Calls Try.prog 5 #[.slice to tl.length tcap, .int .i64 2] w fun e w' => e = .returned (.bool true) ∧ Below w.heap.size w w' := by
  have HT := hid_of htr
  have HTS := hid_of hts
  have HD := hid_of hd
  have HDL : Hid (tl.length ≤ 140737488351232) := hid_of (by omega)
  have HE : Hid (encIt ⟨2, 1, none, [], 0⟩ = tl) := hid_of (by rw [encIt2, hd]; rfl)
  have hl1 : tl.length ≤ 1 := by rw [hd]; simp
  have hl2 : 1 ≤ tl.length := by rw [hd]; simp
  have HN : Hid (1 < 18446744073709551616) := hid_of (by omega)
  clear htr hts hd
  go_enter Try.func5, Try.ntmps5
  go_wp2_with (first
    | (go_at_call 10; refine (awake_any w).mono ?_; rintro e w1 ⟨rfl, h1⟩; have H1 := hid_of h1; clear h1)
    | (go_at_call 14; refine (newReader_n to tl tl.length tcap w1 rfl HT.out HDL.out (canon_src HTS.out H1.out)).mono ?_; rintro e w5 ⟨b, g, rfl, h5, hb5, hbb, _⟩; have H5 := hid_of h5; have HB5 := hid_of hb5; have HBB := hid_of hbb; clear h5 hb5 hbb)
    | (go_at_call 22; refine (rb1 b g 0 tl [] _ (canon_box H5.out _) HD.out).mono ?_; rintro e w6 ⟨rfl, hR6, hK6, hsz⟩; clear hsz; have hbx := canon_row (lt_of_block H5.out.blk) hK6; have cB := cell_of_row _ _ 1 _ _ _ hbx; have fB := canon_free 1 hbx; have HX := hid_of hbx; have HR6 := hid_of hR6; have HK6 := hid_of hK6; clear hR6 hK6 hbx))
  have HW := hid_of (canon_set (j := 1) (u := .int .u64 1) (cs := #[.int .i64 2, .int .u64 1, .slice none 0 0]) (bel_sta H1.out HB5.out HBB.out HR6.out HK6.out) HX.out rfl)
  clear cB fB
  generalize w6.setCell ⟨w5.heap.size, 1, none⟩ (.int .u64 1) = w7 at *
  obtain ⟨⟨last, hR7⟩, hx7, hb7⟩ := HW.out
  have HR7 := hid_of hR7
  have q0 := cell_of_row _ _ 0 _ _ _ hx7
  have q1 := cell_of_row _ _ 1 _ _ _ hx7
  have q2 := cell_of_row _ _ 2 _ _ _ hx7
  have cvb0 : ∀ k, (convert 25 9 (.slice to tl.length tcap)).run Try.prog (w7.drewN k) = .ok (.string (strOfNums tl)) (w7.drewN k) := fun k => conv_src (canon_src HTS.out (below_drewN hb7 k))
  have cvb1 : ∀ k o, (convert 25 9 (.slice to tl.length tcap)).run Try.prog ((w7.drewN k).alloc o) = .ok (.string (strOfNums tl)) ((w7.drewN k).alloc o) := fun k o => conv_src (canon_src HTS.out ((below_drewN hb7 k).alloc hb7.size o))
  have HB7 := hid_of hb7
  clear hR7 hx7 hb7
  go_region_with (first
    | (go_at_call 19; refine (end_ok b g _ last tl _ (HR7.out.drewN 1) (by omega)).mono ?_; rintro e w' ⟨rfl, m8, rfl⟩)
    | (go_at_call 12; refine (written_one 2 1 tl.length tl (w7.drewN (1 + m8)) HN.out HE.out rfl).mono ?_; rintro e w8 ⟨g8, rfl, hr8, _, hb8⟩; have cv8 := conv_row hr8; have cvb8 := conv_src (cap := tcap) (canon_src HTS.out ((below_drewN HB7.out (1 + m8)).trans (hb8.mono HB7.out.size))); have HB8 := hid_of hb8; clear hr8 hb8))
  all_goals go_wp2
  all_goals go_ret
  all_goals exact ⟨rfl, (below_drewN HB7.out (1 + m8)).trans (HB8.out.mono HB7.out.size)⟩

set_option maxRecDepth 100000 in
set_option maxHeartbeats 1600000 in
theorem canon2_0 (to : Option Addr) (tl : List Int) (tcap : Nat) (w : World) (ht : tl.length ≤ 4000) (htr : ∀ y ∈ tl, 0 ≤ y ∧ y ≤ 255) (hd : tl = [0])
    (hts : 0 < tl.length → ∃ ad, to = some ad ∧ ad.block < w.heap.size ∧ ∀ j u, (bs tl)[j]? = some u → w.cell? (ad.add j) = some u) :
    Calls Try.prog 5 #[.slice to tl.length tcap, .int .i64 2] w fun e w' => e = .returned (.bool true) ∧ Below w.heap.size w w' := by
  have HT := hid_of htr
  have HTS := hid_of hts
  have HD := hid_of hd
  have HDL : Hid (tl.length ≤ 140737488351232) := hid_of (by omega)
  have HE : Hid (encIt ⟨2, 0, none, [], 0⟩ = tl) := hid_of (by rw [encIt2, hd]; rfl)
  have hl1 : tl.length ≤ 1 := by rw [hd]; simp
  have hl2 : 1 ≤ tl.length := by rw [hd]; simp
  have HN : Hid (0 < 18446744073709551616) := hid_of (by omega)
  clear htr hts hd
  go_enter Try.func5, Try.ntmps5
  go_wp2_with (first
    | (go_at_call 10; refine (awake_any w).mono ?_; rintro e w1 ⟨rfl, h1⟩; have H1 := hid_of h1; clear h1)
    | (go_at_call 14; refine (newReader_n to tl tl.length tcap w1 rfl HT.out HDL.out (canon_src HTS.out H1.out)).mono ?_; rintro e w5 ⟨b, g, rfl, h5, hb5, hbb, _⟩; have H5 := hid_of h5; have HB5 := hid_of hb5; have HBB := hid_of hbb; clear h5 hb5 hbb)
    | (go_at_call 22; refine (rb0 b g 0 tl [] _ (canon_box H5.out _) HD.out).mono ?_; rintro e w6 ⟨rfl, hR6, hK6, hsz⟩; clear hsz; have hbx := canon_row (lt_of_block H5.out.blk) hK6; have HX := hid_of hbx; have HR6 := hid_of hR6; have HK6 := hid_of hK6; clear hR6 hK6 hbx))
  have HW := hid_of (Stand.same (cs := #[.int .i64 2, .int .u64 0, .slice none 0 0]) (bel_sta H1.out HB5.out HBB.out HR6.out HK6.out) HX.out)
  obtain ⟨⟨last, hR7⟩, hx7, hb7⟩ := HW.out
  have HR7 := hid_of hR7
  have q0 := cell_of_row _ _ 0 _ _ _ hx7
  have q1 := cell_of_row _ _ 1 _ _ _ hx7
  have q2 := cell_of_row _ _ 2 _ _ _ hx7
  have cvb0 : ∀ k, (convert 25 9 (.slice to tl.length tcap)).run Try.prog (w6.drewN k) = .ok (.string (strOfNums tl)) (w6.drewN k) := fun k => conv_src (canon_src HTS.out (below_drewN hb7 k))
  have cvb1 : ∀ k o, (convert 25 9 (.slice to tl.length tcap)).run Try.prog ((w6.drewN k).alloc o) = .ok (.string (strOfNums tl)) ((w6.drewN k).alloc o) := fun k o => conv_src (canon_src HTS.out ((below_drewN hb7 k).alloc hb7.size o))
  have HB7 := hid_of hb7
  clear hR7 hx7 hb7
  go_region_with (first
    | (go_at_call 19; refine (end_ok b g _ last tl _ (HR7.out.drewN 1) (by omega)).mono ?_; rintro e w' ⟨rfl, m8, rfl⟩)
    | (go_at_call 12; refine (written_20 tl.length tl (w6.drewN (1 + m8)) HE.out rfl).mono ?_; rintro e w8 ⟨g8, rfl, hr8, _, hb8⟩; have cv8 := conv_row hr8; have cvb8 := conv_src (cap := tcap) (canon_src HTS.out ((below_drewN HB7.out (1 + m8)).trans (hb8.mono HB7.out.size))); have HB8 := hid_of hb8; clear hr8 hb8))
  all_goals go_wp2
  all_goals go_ret
  all_goals exact ⟨rfl, (below_drewN HB7.out (1 + m8)).trans (HB8.out.mono HB7.out.size)⟩

theorem canon_blk {w w6 : World} {o : Obj} {l : List Int} (h : w6.heap[(w.alloc o).heap.size]? = some (.cells (bs l).toArray 5 (0, 0))) : w6.heap[w.heap.size + 1]? = some (.cells (bs l).toArray 5 (0, 0)) := by
  have e : (w.alloc o).heap.size = w.heap.size + 1 := by simp
  rw [e] at h; exact h
theorem row_set {w6 : World} {g box j : Nat} {l : List Int} {u : Value} {cs0 : Array Value} (h : w6.heap[g]? = some (.cells (bs l).toArray 5 (0, 0))) (hx : w6.heap[box]? = some (.cells cs0 32 (0, 0))) : (w6.setCell ⟨box, j, none⟩ u).heap[g]? = some (.cells (bs l).toArray 5 (0, 0)) := by
  have hne : g ≠ box := fun e => by rw [e, hx] at h; cases h
  rw [Below.heap_setCell _ _ _ _ hne]; exact h
theorem row_in {w : World} {g k : Nat} {l : List Int} (h : w.heap[g]? = some (.cells (bs l).toArray 5 (0, 0))) : 0 < l.length → ∃ ad, (some (⟨g, 0, none⟩ : Addr)) = some ad ∧ ad.block < (w.drewN k).heap.size ∧ ∀ j u, (bs l)[j]? = some u → (w.drewN k).cell? (ad.add j) = some u :=
  fun _ => ⟨_, rfl, lt_of_block h, fun j v hv => World.news_of_block (w := w.drewN k) h j v (by simpa using hv)⟩
theorem enc3 {tl : List Int} {k n : Nat} (kind : Int) (ao : Option Addr) (cap : Nat) (h0 : kind ≠ 0) (h1 : kind ≠ 1) (h2 : kind ≠ 2) (hr : ∀ y ∈ tl, 0 ≤ y ∧ y ≤ 255) (hd : decRun tl = some (k, n)) (hk : k + n = tl.length) : encIt ⟨kind, 0, ao, (tl.drop (0 + k)).take n, cap⟩ = tl ∧ ((tl.drop (0 + k)).take n).length = n := by
  obtain ⟨d1, d2⟩ := decRun_some hd
  have hl : ((tl.drop (0 + k)).take n).length = n := by rw [List.length_take, List.length_drop]; omega
  refine ⟨?_, hl⟩
  unfold encIt
  simp only
  have e : (tl.drop (0 + k)).take n = tl.drop k := by rw [Nat.zero_add, List.take_of_length_le (by rw [List.length_drop]; omega)]
  rw [if_neg h0, if_neg h1, if_neg h2, hl, e, ← dec_canon hr d1, List.take_append_drop]

set_option maxRecDepth 100000 in
set_option maxHeartbeats 1600000 in
theorem canon3 (to : Option Addr) (tl : List Int) (tcap : Nat) (w : World) (ht : tl.length ≤ 4000) (htr : ∀ y ∈ tl, 0 ≤ y ∧ y ≤ 255) (k n : Nat) (hd : decRun tl = some (k, n)) (hk : k + n = tl.length)
    (hts : 0 < tl.length → ∃ ad, to = some ad ∧ ad.block < w.heap.size ∧ ∀ j u, (bs tl)[j]? = some u → w.cell? (ad.add j) = some u) :
    Calls Try.prog 5 #[.slice to tl.length tcap, .int .i64 3] w fun e w' => e = .returned (.bool true) ∧ Below w.heap.size w w' := by
  have HT := hid_of htr
  have HTS := hid_of hts
  have HD := hid_of hd
  have HDL : Hid (tl.length ≤ 140737488351232) := hid_of (by omega)
  have HE : Hid (∀ ao, encIt ⟨3, 0, ao, (tl.drop (0 + k)).take n, n⟩ = tl) := hid_of fun ao => (enc3 3 ao n (by decide) (by decide) (by decide) htr hd hk).1
  have HML : Hid (((tl.drop (0 + k)).take n).length = n) := hid_of (enc3 3 none n (by decide) (by decide) (by decide) htr hd hk).2
  have hk2 : 0 + k + n ≤ tl.length := by omega
  have hk3 : tl.length ≤ 0 + k + n := by omega
  clear hk
  have HN : Hid (0 < 18446744073709551616) := hid_of (by omega)
  clear htr hts hd
  go_enter Try.func5, Try.ntmps5
  go_wp2_with (first
    | (go_at_call 10; refine (awake_any w).mono ?_; rintro e w1 ⟨rfl, h1⟩; have H1 := hid_of h1; clear h1)
    | (go_at_call 14; refine (newReader_n to tl tl.length tcap w1 rfl HT.out HDL.out (canon_src HTS.out H1.out)).mono ?_; rintro e w5 ⟨b, g, rfl, h5, hb5, hbb, _⟩; have H5 := hid_of h5; have HB5 := hid_of hb5; have HBB := hid_of hbb; clear h5 hb5 hbb)
    | (go_at_call 23; refine (rbytes_ok b g 0 0 k n tl _ (canon_box H5.out _) HD.out).mono ?_; rintro e w6 ⟨rfl, hR6, hrow, hK6⟩; have hbx := canon_row (lt_of_block H5.out.blk) hK6; have cB := cell_of_row _ _ 2 _ _ _ hbx; have fB := canon_free 2 hbx; have HX := hid_of hbx; have HR6 := hid_of hR6; have HK6 := hid_of hK6; have HRW := hid_of (canon_blk hrow); clear hrow; clear hR6 hK6 hbx))
  have HW := hid_of (canon_set (j := 2) (u := .slice (some ⟨w5.heap.size + 1, 0, none⟩) n n) (cs := #[.int .i64 3, .int .u64 0, .slice (some ⟨w5.heap.size + 1, 0, none⟩) n n]) (bel_sta H1.out HB5.out HBB.out HR6.out HK6.out) HX.out rfl)
  have HROW := hid_of (row_set (j := 2) (u := .slice (some ⟨w5.heap.size + 1, 0, none⟩) n n) HRW.out HX.out)
  clear cB fB
  generalize w6.setCell ⟨w5.heap.size, 2, none⟩ (.slice (some ⟨w5.heap.size + 1, 0, none⟩) n n) = w7 at *
  obtain ⟨⟨last, hR7⟩, hx7, hb7⟩ := HW.out
  have HR7 := hid_of hR7
  have q0 := cell_of_row _ _ 0 _ _ _ hx7
  have q1 := cell_of_row _ _ 1 _ _ _ hx7
  have q2 := cell_of_row _ _ 2 _ _ _ hx7
  have cvb0 : ∀ k, (convert 25 9 (.slice to tl.length tcap)).run Try.prog (w7.drewN k) = .ok (.string (strOfNums tl)) (w7.drewN k) := fun k => conv_src (canon_src HTS.out (below_drewN hb7 k))
  have cvb1 : ∀ k o, (convert 25 9 (.slice to tl.length tcap)).run Try.prog ((w7.drewN k).alloc o) = .ok (.string (strOfNums tl)) ((w7.drewN k).alloc o) := fun k o => conv_src (canon_src HTS.out ((below_drewN hb7 k).alloc hb7.size o))
  have HB7 := hid_of hb7
  clear hR7 hx7 hb7
  go_region_with (first
    | (go_at_call 19; refine (end_ok b g _ last tl _ (HR7.out.drewN 1) (by omega)).mono ?_; rintro e w' ⟨rfl, m8, rfl⟩)
    | (go_at_call 12; refine (written_oneB 3 0 n tl.length (some ⟨w5.heap.size + 1, 0, none⟩) ((tl.drop (0 + k)).take n) tl n (w7.drewN (1 + m8)) HN.out HML.out (by have := HML.out; omega) (fun h => by cases h) (fun y hy => HT.out y (List.mem_of_mem_drop (List.mem_of_mem_take hy))) (row_in HROW.out) (HE.out _) rfl).mono ?_; rintro e w8 ⟨g8, rfl, hr8, _, hb8⟩; have cv8 := conv_row hr8; have cvb8 := conv_src (cap := tcap) (canon_src HTS.out ((below_drewN HB7.out (1 + m8)).trans (hb8.mono HB7.out.size))); have HB8 := hid_of hb8; clear hr8 hb8))
  all_goals go_wp2
  all_goals go_ret
  all_goals exact ⟨rfl, (below_drewN HB7.out (1 + m8)).trans (HB8.out.mono HB7.out.size)⟩

end Go.Proofs.Ytijjaoabkbeeeaa
