/- Lex of a source that is too long; sources with blanks in front. -/
import Derived.Test.YtdmjlmlmdllhgaaDoorLexLw6
import Derived.Deep.OwnRows
import Derived.Laws.BytesArg
namespace Go.Proofs.YtdmjlmlmdllhgaaDoor
open Go.RowKit

/-- What is read has a first token, where the first token begins. -/
theorem lx_first {s : ByteArray} {a : Nat} (ha : a ≤ s.size) (h0 : (Lx s a).2.1 = 0) : ∃ t r, (Lx s a).1 = t :: r ∧ t.place = sk s a := by
  by_cases hc : (nextF s a).code = 0
  · by_cases e : sk s a = s.size
    · rw [lx_end e]
      exact ⟨_, _, rfl, e.symm⟩
    · rw [lx_tok ha e hc, pre] at h0 ⊢
      split at h0
      · rename_i h3; exact absurd h0 h3
      · rename_i h3
        rw [if_neg h3]
        exact ⟨_, _, rfl, rfl⟩
  · rw [lx_bad hc] at h0
    exact absurd h0 hc
theorem lx_code {s : ByteArray} {a : Nat} (h0 : (Lx s a).2.1 = 0) : (nextF s a).code = 0 := Decidable.not_not.1 (fun h => by rw [lx_bad h] at h0; exact h h0)
def spc (n : Nat) : ByteArray := strOfNums (List.replicate n 32)
theorem spc_size (n : Nat) : (spc n).size = n := by unfold spc; rw [strOfNums_size, List.length_replicate]
theorem spc_list (n : Nat) : (spc n).data.toList = List.replicate n 32 := by
  show (List.replicate n (32 : Int)).map (fun n => UInt8.ofNat n.toNat) = _
  rw [List.map_replicate]
  rfl
theorem spc_shf (s : ByteArray) (n : Nat) : Shf s (spc n ++ s) 0 n ∧ sk (spc n ++ s) 0 = sk (spc n ++ s) n := by
  have hul : (spc n ++ s).data.toList = List.replicate n 32 ++ s.data.toList := by rw [app_list, spc_list]
  have hz : (spc n ++ s).size = n + s.size := by rw [ByteArray.size_append, spc_size]
  refine ⟨shf_of (Nat.zero_le _) (List.replicate n 32) (by simp) (by rw [hul, List.drop_zero]), ?_⟩
  refine sk_far (by omega) _ 0 rfl (Nat.zero_le _) (fun j _ hj => ?_)
  rw [byte_at (c := 32) (by rw [hul, List.getElem?_append_left (by simpa using hj), List.getElem?_replicate_of_lt hj])]
  rfl
theorem lim_lx (s : ByteArray) (n : Nat) : (Lx (spc n ++ s) 0).1 = (Lx s 0).1.map (shT n) ∧ (Lx (spc n ++ s) 0).2.1 = (Lx s 0).2.1 ∧ ((Lx s 0).2.1 ≠ 0 → (Lx (spc n ++ s) 0).2.2 = (Lx s 0).2.2 + n) ∧ ((Lx s 0).2.1 = 0 → (nextF (spc n ++ s) n).code = 0 ∧ ∃ t r, (Lx (spc n ++ s) 0).1 = t :: r ∧ t.place = sk (spc n ++ s) n) := by
  obtain ⟨F, e⟩ := spc_shf s n
  have hz := F.sz
  have h1 := F.lx _ 0 rfl (Nat.le_refl _) (Nat.zero_le _)
  rw [Nat.zero_add] at h1
  have h2 : Lx (spc n ++ s) 0 = Lx (spc n ++ s) n := lx_sk (Nat.zero_le _) (by omega) e
  rw [← h2] at h1
  refine ⟨h1.1, h1.2.1, h1.2.2, fun h0 => ?_⟩
  have h3 : (Lx (spc n ++ s) 0).2.1 = 0 := by rw [h1.2.1]; exact h0
  refine ⟨lx_code (by rw [← h2]; exact h3), ?_⟩
  obtain ⟨t, r, q1, q2⟩ := lx_first (Nat.zero_le _) h3
  exact ⟨t, r, q1, by rw [q2, e]⟩
set_option maxRecDepth 100000 in
set_option maxHeartbeats 3200000 in
theorem lex_big (s : ByteArray) (w : World) (hs : 65536 < s.size) :
    Calls Tryd.prog 21 #[.string s] w fun e w' => e = .returned (.tuple #[.slice none 0 0, .agg #[.int .i64 6, .int .i64 65536]]) ∧ Below w.heap.size w w' := by
  have HI1 := hid_of infoTok
  have HI2 := hid_of infoFlt
  have ZR : Hid ((w.alloc (.cells #[.int .i64 0, .int .i64 0] 28)).heap[w.heap.size]? = some (.cells #[.int .i64 0, .int .i64 0] 28 (0, 0))) := hid_of (heap_alloc_new w _)
  have ZB : Hid (Below w.heap.size w (w.alloc (.cells #[.int .i64 0, .int .i64 0] 28))) := hid_of (bel_alloc w _)
  have ZS : Hid ((w.alloc (.cells #[.int .i64 0, .int .i64 0] 28)).heap.size = w.heap.size + 1) := hid_of (by simp)
  have NXB : Hid (∀ w1, Calls Tryd.prog 19 #[.string s, .int .i64 0] w1 (NexBad 6 65536 w1)) := hid_of (fun w1 => nex_big s 0 w1 hs)
  clear hs
  go_enter Tryd.func21, Tryd.ntmps21
  go_wp2
  go_loopw [4, 5] (fun tv av wr => tv = .slice none 0 0 ∧ av = .int .i64 0 ∧ Hid (Below (w.heap.size + 1) (w.alloc (.cells #[.int .i64 0, .int .i64 0] 28)) wr)) (fun _ _ _ => 0)
  case atStart => exact ⟨rfl, rfl, hid_of (Below.refl _ _)⟩
  case round =>
    obtain ⟨rfl, rfl, how⟩ := hrel
    have hsz : w.heap.size + 1 ≤ wr.heap.size := by have := how.out.size; have := ZS.out; omega
    have HRW : Hid (∀ w1, Below wr.heap.size wr w1 → w1.heap[w.heap.size]? = some (.cells #[.int .i64 0, .int .i64 0] 28 (0, 0)) ∧ w.heap.size < w1.heap.size) := hid_of (fun w1 h => by
      exact ⟨(h.block _ (by omega)).trans ((how.out.block _ (by omega)).trans ZR.out), by have := h.size; omega⟩)
    have NX := hid_of (NXB.out wr)
    go_wp2_with (go_at_call 19; ((with_reducible refine (NX.out).mono ?_); (rintro e w1 ⟨rfl, h1⟩; have B1 := hid_of h1; clear h1)))
    obtain ⟨ra, rb⟩ := HRW.out w1 B1.out
    have B3 : Hid (Below w1.heap.size w1 ((w1.alloc (.cells #[.int .i64 0, .string ⟨#[]⟩, .int .i64 0, .int .i64 0] 25)).alloc (.cells #[.int .i64 6, .int .i64 65536] 28))) := hid_of (bel_two _ _ _)
    have WB := hid_of ((B3.out.block w.heap.size rb).trans ra)
    have U3 : Hid (((w1.alloc (.cells #[.int .i64 0, .string ⟨#[]⟩, .int .i64 0, .int .i64 0] 25)).alloc (.cells #[.int .i64 6, .int .i64 65536] 28)).heap[w1.heap.size + 1]? = some (.cells #[.int .i64 6, .int .i64 65536] 28 (0, 0))) := hid_of (two_b _ _ _)
    have LB : Hid (Below w.heap.size w ((w1.alloc (.cells #[.int .i64 0, .string ⟨#[]⟩, .int .i64 0, .int .i64 0] 25)).alloc (.cells #[.int .i64 6, .int .i64 65536] 28))) := hid_of (ZB.out.trans ((how.out.mono (by omega)).trans ((B1.out.mono (by omega)).trans (B3.out.mono (by omega)))))
    have n3 : ¬ w.heap.size = w1.heap.size + 1 := by omega
    clear ra rb
    generalize ((w1.alloc (.cells #[.int .i64 0, .string ⟨#[]⟩, .int .i64 0, .int .i64 0] 25)).alloc (.cells #[.int .i64 6, .int .i64 65536] 28)) = w3 at *
    obtain ⟨e0, e1, g0, g1⟩ := row2 WB.out
    obtain ⟨t0, t1, _, _⟩ := row2 U3.out
    go_region
    go_wp2
    rw [set2 WB.out]
    refine bodyPost_ret (res_tc (cs := #[.int .i64 6, .int .i64 65536]) rfl w.heap.size rfl (setRow_heap _ _ _ _ _ _ WB.out) Tryd.underlying28 rfl HI2.out) rfl ?_
    exact ⟨rfl, bel_drew (bel_row LB.out (Nat.le_refl _) _)⟩
end Go.Proofs.YtdmjlmlmdllhgaaDoor
