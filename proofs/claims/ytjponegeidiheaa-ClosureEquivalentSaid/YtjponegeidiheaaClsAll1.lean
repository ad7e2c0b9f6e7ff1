/- The counting visit of All. Bounds on sizes alone. -/
import Derived.Test.YtjponegeidiheaaClsWal
namespace Go.Proofs.Ytjponegeidiheaa
open Go.RowKit

theorem mems_len {T : List Nat} {n : Nat} (hd : T.Nodup) (hT : ∀ x ∈ T, x < n) : (mems T n).length = T.length := by
  apply Nat.le_antisymm (mems_length hd n)
  have : ∀ (A B : List Nat), A.Nodup → (∀ x ∈ A, x ∈ B) → A.length ≤ B.length := by
    intro A
    induction A with
    | nil => intro B _ _; simp
    | cons a A ih =>
      intro B hA hB
      have ⟨h1, h2⟩ := List.nodup_cons.1 hA
      have h3 := ih (B.erase a) h2 (fun x hx => (List.mem_erase_of_ne (by rintro rfl; exact h1 hx)).2 (hB x (List.mem_cons_of_mem _ hx)))
      have h4 := List.length_erase_of_mem (hB a List.mem_cons_self)
      have h5 : 0 < B.length := List.length_pos_of_mem (hB a List.mem_cons_self)
      simp only [List.length_cons]
      omega
  exact this _ _ hd fun x hx => mem_mems.2 ⟨hT x hx, hx⟩
def sumL (d : List (List Nat)) : Nat := (d.map List.length).sum
theorem sumL_snoc (d : List (List Nat)) (x : List Nat) : sumL (d ++ [x]) = sumL d + x.length := by simp [sumL]
/-- What the counting visit holds. -/
structure J1 (kb ib xb lb c n : Nat) (lim : Int) (d : List (List Nat)) (JS : Nat → Prop) (w : World) : Prop where
  js : ∀ b, JS b ↔ b = kb ∨ b = ib ∨ b = xb ∨ b = lb
  k : w.heap[kb]? = some (.cells #[.int .i64 (d.length : Nat)] 3 (0, 0))
  i : w.heap[ib]? = some (.cells #[.int .i64 (sumL d : Nat)] 3 (0, 0))
  x : w.heap[xb]? = some (.cells #[.pointer (some ⟨c, 0, none⟩)] 76 (0, 0))
  l : w.heap[lb]? = some (.cells #[.int .i64 lim] 3 (0, 0))
  ne : kb ≠ ib ∧ kb ≠ xb ∧ kb ≠ lb ∧ ib ≠ xb ∧ ib ≠ lb
  sm : sumL d ≤ d.length * n
theorem J1.stable {kb ib xb lb c n : Nat} {lim : Int} : ∀ d JS w w', J1 kb ib xb lb c n lim d JS w → (∀ b, JS b → w'.heap[b]? = w.heap[b]?) → w.heap.size ≤ w'.heap.size → J1 kb ib xb lb c n lim d JS w' := fun _ _ _ _ h hs _ =>
  ⟨h.js, (hs kb ((h.js kb).2 (.inl rfl))).trans h.k, (hs ib ((h.js ib).2 (.inr (.inl rfl)))).trans h.i, (hs xb ((h.js xb).2 (.inr (.inr (.inl rfl))))).trans h.x, (hs lb ((h.js lb).2 (.inr (.inr (.inr rfl))))).trans h.l, h.ne, h.sm⟩
def okL (lim : Int) (d : List (List Nat)) : Bool := decide ((d.length : Int) ≤ lim)

set_option maxRecDepth 100000 in
set_option maxHeartbeats 800000 in
theorem all1_any (kb ib xb lb c n N : Nat) (lim : Int) (R : List Hrl) (hn : n ≤ 1000) (hNN : N ≤ 100000) (vb cb bb gv : Nat) (lbs : Array Value) (d : List (List Nat)) (T : List Nat) (V : CV) (U JS : Nat → Prop) (w : World) (hd : d.length < N) (h : St c n R vb cb bb gv lbs (J1 kb ib xb lb c n lim) d T V U JS w) (hl1 : -9223372036854775808 ≤ lim) (hl2 : lim ≤ 9223372036854775807) :
    Calls Try.prog 54 #[.pointer (some ⟨kb, 0, none⟩), .pointer (some ⟨ib, 0, none⟩), .pointer (some ⟨xb, 0, none⟩), .pointer (some ⟨lb, 0, none⟩)] w fun e w' => e = .returned (.tuple #[.slice none 0 0, .bool (okL lim (d ++ [mems T n]))]) ∧ ∃ JS', J1 kb ib xb lb c n lim (d ++ [mems T n]) JS' w' ∧ Chg JS JS' w w' ∧ ∀ b, JS' b → b < w'.heap.size := by
  have j := h.j
  have hml : (mems T n).length = T.length := mems_len h.ch.nd h.ch.tn
  have hTn := h.ch.len
  obtain ⟨ta, tc, htv⟩ := h.ch.tvs
  obtain ⟨q, hq⟩ : ∃ q, q = d.length := ⟨_, rfl⟩
  obtain ⟨s, hs⟩ : ∃ s, s = sumL d := ⟨_, rfl⟩
  obtain ⟨t, ht⟩ : ∃ t, t = T.length := ⟨_, rfl⟩
  have hsb : s ≤ 100000000 := by
    have h1 := j.sm
    rw [← hs, ← hq] at h1
    have : q * n ≤ 100000 * 1000 := Nat.mul_le_mul (by omega) hn
    omega
  have k1 : w.cell? ⟨kb, 0, none⟩ = some (.int .i64 (q : Nat)) := by rw [hq]; exact blk_cell (cs := [.int .i64 (d.length : Nat)]) j.k rfl
  have f1 : w.frozen? ⟨kb, 0, none⟩ = false := blk_free (cs := [.int .i64 (d.length : Nat)]) j.k 0
  have n1 := j.ne
  have hS1 : ∀ b, b ≠ kb → (w.setCell ⟨kb, 0, none⟩ (.int .i64 ((q : Int) + 1))).heap[b]? = w.heap[b]? := fun b hb => set_other hb
  have k2 : (w.setCell ⟨kb, 0, none⟩ (.int .i64 ((q : Int) + 1))).cell? ⟨ib, 0, none⟩ = some (.int .i64 (s : Nat)) := by rw [hs]; exact blk_cell (cs := [.int .i64 (sumL d : Nat)]) ((hS1 ib n1.1.symm).trans j.i) rfl
  have k3 : (w.setCell ⟨kb, 0, none⟩ (.int .i64 ((q : Int) + 1))).cell? ⟨xb, 0, none⟩ = some (.pointer (some ⟨c, 0, none⟩)) := blk_cell (cs := [.pointer (some ⟨c, 0, none⟩)]) ((hS1 xb n1.2.1.symm).trans j.x) rfl
  have hck : c ≠ kb := fun e => by
    have h1 := (h.ap kb ((j.js kb).2 (.inl rfl))).1
    rw [← e] at h1; exact h1 h.ch.sc
  have k4 : (w.setCell ⟨kb, 0, none⟩ (.int .i64 ((q : Int) + 1))).cell? ⟨c, 5, none⟩ = some (.slice ta t tc) := by
    have h1 := h.ch.cell (j := 5) rfl
    rw [htv, ← ht] at h1
    unfold World.cell? at h1 ⊢
    rw [hS1 c hck]; exact h1
  have f2 : (w.setCell ⟨kb, 0, none⟩ (.int .i64 ((q : Int) + 1))).frozen? ⟨ib, 0, none⟩ = false := blk_free (cs := [.int .i64 (sumL d : Nat)]) ((hS1 ib n1.1.symm).trans j.i) 0
  have hw1 : IntKind.i64.wrap ((s : Int) + (t : Int)) = ((s + t : Nat) : Int) := by rw [IntWalk.i64_in _ (by omega)]; omega
  obtain ⟨st, hst⟩ : ∃ st, st = s + t := ⟨_, rfl⟩
  rw [← hst] at hw1
  have HFIN : Hid (∀ wz, (∀ b, wz.heap[b]? = (((w.setCell ⟨kb, 0, none⟩ (.int .i64 ((q : Int) + 1))).setCell ⟨ib, 0, none⟩ (.int .i64 (st : Int)))).heap[b]?) → wz.os = w.os → wz.tape = w.tape → wz.output = w.output → wz.heap.size = w.heap.size → (wz.cell? ⟨kb, 0, none⟩ = some (.int .i64 ((q : Int) + 1)) ∧ wz.cell? ⟨lb, 0, none⟩ = some (.int .i64 lim) ∧ wz.cell? ⟨ib, 0, none⟩ = some (.int .i64 (st : Int))) ∧ ∃ JS', J1 kb ib xb lb c n lim (d ++ [mems T n]) JS' wz ∧ Chg JS JS' w wz ∧ ∀ b, JS' b → b < wz.heap.size) := hid_of (fun wz hz z1 z2 z3 z4 => by
    have p1 : ((w.setCell ⟨kb, 0, none⟩ (.int .i64 ((q : Int) + 1))).setCell ⟨ib, 0, none⟩ (.int .i64 (st : Int))).heap[kb]? = some (.cells #[.int .i64 ((q : Int) + 1)] 3 (0, 0)) := by
      rw [set_other n1.1]; exact blk_setCell (cur := [.int .i64 (d.length : Nat)]) (k := 0) j.k
    have p2 : ((w.setCell ⟨kb, 0, none⟩ (.int .i64 ((q : Int) + 1))).setCell ⟨ib, 0, none⟩ (.int .i64 (st : Int))).heap[ib]? = some (.cells #[.int .i64 (st : Int)] 3 (0, 0)) := blk_setCell (cur := [.int .i64 (sumL d : Nat)]) (k := 0) ((hS1 ib n1.1.symm).trans j.i)
    have p3 : ∀ b, b ≠ kb → b ≠ ib → ((w.setCell ⟨kb, 0, none⟩ (.int .i64 ((q : Int) + 1))).setCell ⟨ib, 0, none⟩ (.int .i64 (st : Int))).heap[b]? = w.heap[b]? := fun b h1 h2 => by rw [set_other h2, set_other h1]
    have g1 := (hz kb).trans p1
    have g2 := (hz ib).trans p2
    have g3 := ((hz xb).trans (p3 xb n1.2.1.symm n1.2.2.2.1.symm)).trans j.x
    have g4 := ((hz lb).trans (p3 lb n1.2.2.1.symm n1.2.2.2.2.symm)).trans j.l
    refine ⟨⟨blk_cell (cs := [.int .i64 ((q : Int) + 1)]) g1 rfl, blk_cell (cs := [.int .i64 lim]) g4 rfl, blk_cell (cs := [.int .i64 (st : Int)]) g2 rfl⟩, JS, ⟨j.js, ?_, ?_, g3, g4, n1, ?_⟩, ⟨⟨z1, z2, z3, by omega, fun b hb hs2 => ?_⟩, fun b hb => .inl hb⟩, fun b hb => by have := (h.ap b hb).2; omega⟩
    · rw [List.length_append, List.length_singleton, ← hq]; exact g1
    · rw [sumL_snoc, hml, ← hs, ← ht, ← hst]; exact g2
    · rw [sumL_snoc, List.length_append, List.length_singleton, hml, Nat.add_mul]
      have := j.sm; omega
    · rw [hz b, p3 b (fun e => hs2 ((j.js b).2 (.inl e))) (fun e => hs2 ((j.js b).2 (.inr (.inl e))))])
  have HOK : Hid (okL lim (d ++ [mems T n]) = decide ((q : Int) + 1 ≤ lim)) := hid_of (by unfold okL; rw [List.length_append, List.length_singleton, ← hq]; rfl)
  have hqb : q ≤ 100000 := by omega
  have hstb : st ≤ 200000000 := by omega
  clear j h hml hTn htv hS1 hck n1 hq hs ht hst hd
  have hos : Hid ((w.setCell ⟨kb, 0, none⟩ (.int .i64 ((q : Int) + 1))).os = w.os ∧ (w.setCell ⟨kb, 0, none⟩ (.int .i64 ((q : Int) + 1))).tape = w.tape ∧ (w.setCell ⟨kb, 0, none⟩ (.int .i64 ((q : Int) + 1))).output = w.output ∧ (w.setCell ⟨kb, 0, none⟩ (.int .i64 ((q : Int) + 1))).heap.size = w.heap.size) := hid_of ⟨rfl, rfl, rfl, by simp⟩
  have u1 : (q : Int) + 1 ≤ lim ∨ ¬ (q : Int) + 1 ≤ lim := Classical.em _
  rcases u1 with u1 | u1
  · have HD : Hid (decide ((q : Int) + 1 ≤ lim) = true) := hid_of (decide_eq_true u1)
    have hd1 : decide ((q : Int) + 1 ≤ lim) = true := decide_eq_true u1
    have hd2 : decide ((st : Int) ≤ 2147483647) = true := decide_eq_true (by omega)
    go_enter Try.func54, Try.ntmps54
    go_wp2
    generalize w.setCell ⟨kb, 0, none⟩ (.int .i64 ((q : Int) + 1)) = w2 at k2 k3 k4 f2 hos HFIN ⊢
    go_still_tail 7, (by kernel_rfl)
    change wpList _ _ _ _ _ w2.drew
    go_wp2
    have m0 := HFIN.out ((w2.setCell ⟨ib, 0, none⟩ (.int .i64 (st : Int))).drew) (fun _ => rfl) hos.out.1 hos.out.2.1 hos.out.2.2.1 (by have := hos.out.2.2.2; simpa using this)
    have m1 := m0.1.1
    have m2 := m0.1.2.1
    have m3 := m0.1.2.2
    have HJ : Hid (∀ wz, wz.heap = (w2.setCell ⟨ib, 0, none⟩ (.int .i64 (st : Int))).drew.heap → wz.os = (w2.setCell ⟨ib, 0, none⟩ (.int .i64 (st : Int))).drew.os → wz.tape = (w2.setCell ⟨ib, 0, none⟩ (.int .i64 (st : Int))).drew.tape → wz.output = (w2.setCell ⟨ib, 0, none⟩ (.int .i64 (st : Int))).drew.output → ∃ JS', J1 kb ib xb lb c n lim (d ++ [mems T n]) JS' wz ∧ Chg JS JS' w wz ∧ ∀ b, JS' b → b < wz.heap.size) := hid_of (fun wz z1 z2 z3 z4 => (HFIN.out wz (fun b => by rw [z1]; rfl) (z2.trans hos.out.1) (z3.trans hos.out.2.1) (z4.trans hos.out.2.2.1) (by have := hos.out.2.2.2; rw [z1]; simpa using this)).2)
    clear m0 HFIN hos
    generalize (w2.setCell ⟨ib, 0, none⟩ (.int .i64 (st : Int))).drew = w3 at m1 m2 m3 HJ ⊢
    go_quiet (fail)
    go_wp2
    go_ret2
    refine ⟨?_, HJ.out _ rfl rfl rfl rfl⟩
    rw [HOK.out, HD.out]; rfl
  · have HD : Hid (decide ((q : Int) + 1 ≤ lim) = false) := hid_of (decide_eq_false u1)
    have hd1 : decide ((q : Int) + 1 ≤ lim) = false := decide_eq_false u1
    have hd2 : decide ((st : Int) ≤ 2147483647) = true := decide_eq_true (by omega)
    go_enter Try.func54, Try.ntmps54
    go_wp2
    generalize w.setCell ⟨kb, 0, none⟩ (.int .i64 ((q : Int) + 1)) = w2 at k2 k3 k4 f2 hos HFIN ⊢
    go_still_tail 7, (by kernel_rfl)
    change wpList _ _ _ _ _ w2.drew
    go_wp2
    have m0 := HFIN.out ((w2.setCell ⟨ib, 0, none⟩ (.int .i64 (st : Int))).drew) (fun _ => rfl) hos.out.1 hos.out.2.1 hos.out.2.2.1 (by have := hos.out.2.2.2; simpa using this)
    have m1 := m0.1.1
    have m2 := m0.1.2.1
    have m3 := m0.1.2.2
    have HJ : Hid (∀ wz, wz.heap = (w2.setCell ⟨ib, 0, none⟩ (.int .i64 (st : Int))).drew.heap → wz.os = (w2.setCell ⟨ib, 0, none⟩ (.int .i64 (st : Int))).drew.os → wz.tape = (w2.setCell ⟨ib, 0, none⟩ (.int .i64 (st : Int))).drew.tape → wz.output = (w2.setCell ⟨ib, 0, none⟩ (.int .i64 (st : Int))).drew.output → ∃ JS', J1 kb ib xb lb c n lim (d ++ [mems T n]) JS' wz ∧ Chg JS JS' w wz ∧ ∀ b, JS' b → b < wz.heap.size) := hid_of (fun wz z1 z2 z3 z4 => (HFIN.out wz (fun b => by rw [z1]; rfl) (z2.trans hos.out.1) (z3.trans hos.out.2.1) (z4.trans hos.out.2.2.1) (by have := hos.out.2.2.2; rw [z1]; simpa using this)).2)
    clear m0 HFIN hos
    generalize (w2.setCell ⟨ib, 0, none⟩ (.int .i64 (st : Int))).drew = w3 at m1 m2 m3 HJ ⊢
    go_quiet (fail)
    go_wp2
    go_ret2
    refine ⟨?_, HJ.out _ rfl rfl rfl rfl⟩
    rw [HOK.out, HD.out]; rfl
end Go.Proofs.Ytjponegeidiheaa
