/- get: reading back an item that lies at the Reader's offset. No condition. -/
import Derived.Test.YtijjaoabkbeeeaaWireOpen
namespace Go.Proofs.Ytijjaoabkbeeeaa
open Go.RowKit

/-- The Reader went on by the item. -/
def Got (w w' : World) (b g : Nat) (d : List Int) (off : Nat) : Prop := ∃ last, Rst w' b g d off last 0 ∧ Kept (fun k => k = b) w w'
theorem RTo.got {w w' : World} {b g off last : Nat} {d : List Int} (h : RTo w w' b g d off last 0) : Got w w' b g d off := ⟨last, h.1, h.2.1⟩
theorem Got.drewN {w w' : World} {b g off m : Nat} {d : List Int} (h : Got w w' b g d off) : Got w (w'.drewN m) b g d off := by
  obtain ⟨l, h1, h2⟩ := h; exact ⟨l, h1.drewN m, h2.drewN m⟩
theorem Got.ofAlloc {w w' : World} {b g off m : Nat} {d : List Int} {o : Obj} (h : Got ((w.alloc o).drewN m) w' b g d off) : Got w w' b g d off := by
  obtain ⟨l, h1, h2⟩ := h; exact ⟨l, h1, h2.ofDrewN.of_alloc⟩

/-- The box of the item, in whatever world has kept it. -/
theorem box_at {w w' : World} {b j : Nat} {o : Array Value} {t : Nat} {v : Value} {m : Nat} (hb : b < w.heap.size) (hk : Kept (fun k => k = b) ((w.alloc (.cells o t)).drewN m) w') (hv : o[j]? = some v) : w'.cell? ⟨w.heap.size, j, none⟩ = some v := by
  have h1 : w'.heap[w.heap.size]? = some (.cells o t (0, 0)) := (hk.block w.heap.size (by simp) (by omega)).trans (heap_alloc_new w _)
  rw [cell_of_row _ _ _ _ _ _ h1]; exact hv

theorem Rst.inBox {w : World} {b g off last m : Nat} {d : List Int} {err : Int} (h : Rst w b g d off last err) (o : Obj) : Rst ((w.alloc o).drewN m) b g d off last err :=
  (h.same (w' := w.alloc o) (Below.heap_alloc _ _ _ h.blt) (Below.heap_alloc _ _ _ h.glt)).drewN m

set_option maxRecDepth 100000 in
set_option maxHeartbeats 800000 in
theorem get0 (b g off last n : Nat) (ao : Option Addr) (ml cap : Nat) (d r : List Int) (w : World) (h : Rst w b g d off last 0) (hn : n < 18446744073709551616) (hd : d.drop off = enc n ++ r) :
    Calls Try.prog 15 #[.pointer (some ⟨b, 0, none⟩), .agg #[.int .i64 0, .int .u64 n, .slice ao ml cap]] w fun e w' => e = .returned (.bool true) ∧ Got w w' b g d (off + (enc n).length) := by
  have hdd : dec (d.drop off) = some (n, (enc n).length) := by rw [hd]; exact dec_enc n r hn
  have HD := hid_of hdd
  have H := hid_of h
  have hb := h.blt
  clear hdd hd h
  go_enter Try.func15, Try.ntmps15
  go_wp2
  go_region_with (go_at_call 20; refine (ruint_ok b g off last n (enc n).length d _ (H.out.inBox _) HD.out).mono ?_; rintro e w2 ⟨rfl, h2⟩; have cN := box_at (j := 1) hb h2.2.1 rfl; have R := hid_of h2.got; clear h2)
  all_goals go_wp2
  all_goals go_ret
  all_goals exact ⟨rfl, R.out.ofAlloc⟩

theorem rint_sgn (b g off last n : Nat) (d r : List Int) (w : World) (h : Rst w b g d off last 0) (hd : d.drop off = enc (zig (sgn n)) ++ r) :
    Calls Try.prog 21 #[.pointer (some ⟨b, 0, none⟩)] w fun e w' => e = .returned (.int .i64 (IntKind.i64.wrap (n : Int))) ∧ RTo w w' b g d (off + (enc (zig (sgn n))).length) off 0 := by
  have hs := sgn_bd n
  refine (rint_ok b g off last (zig (sgn n)) (enc (zig (sgn n))).length d w h (by rw [hd]; exact dec_enc _ r (zig_lt _ hs.1 hs.2))).mono fun e w' ⟨h1, h2⟩ => ⟨?_, h2⟩
  have e : IntKind.i64.wrap (n : Int) = sgn n := by unfold sgn wrap64; rw [IntKind.wrap_i64]
  rw [h1, unzig_zig, e]

set_option maxRecDepth 100000 in
set_option maxHeartbeats 800000 in
theorem get1 (b g off last n : Nat) (ao : Option Addr) (ml cap : Nat) (d r : List Int) (w : World) (h : Rst w b g d off last 0) (hd : d.drop off = enc (zig (sgn n)) ++ r) :
    Calls Try.prog 15 #[.pointer (some ⟨b, 0, none⟩), .agg #[.int .i64 1, .int .u64 n, .slice ao ml cap]] w fun e w' => e = .returned (.bool true) ∧ Got w w' b g d (off + (enc (zig (sgn n))).length) := by
  have HD := hid_of hd
  have H := hid_of h
  have hb := h.blt
  clear hd h
  go_enter Try.func15, Try.ntmps15
  go_wp2
  go_region_with (go_at_call 21; refine (rint_sgn b g off last n d r _ (H.out.inBox _) HD.out).mono ?_; rintro e w2 ⟨rfl, h2⟩; have cN := box_at (j := 1) hb h2.2.1 rfl; have R := hid_of h2.got; clear h2)
  all_goals go_wp2
  all_goals go_ret
  all_goals exact ⟨rfl, R.out.ofAlloc⟩

theorem rbool_n (b g off last n : Nat) (d r : List Int) (w : World) (h : Rst w b g d off last 0) (hd : d.drop off = (if n % 2 = 1 then 1 else 0) :: r) :
    Calls Try.prog 22 #[.pointer (some ⟨b, 0, none⟩)] w fun e w' => e = .returned (.bool ((n : Int).tmod 2 == 1)) ∧ RTo w w' b g d (off + 1) off 0 := by
  have ho : off < d.length := by
    rcases Nat.lt_or_ge off d.length with h1 | h1
    · exact h1
    · rw [List.drop_eq_nil_of_le h1] at hd; cases hd
  have hy : d[off] = if n % 2 = 1 then 1 else 0 := by
    rw [List.drop_eq_getElem_cons ho] at hd
    exact (List.cons.inj hd).1
  refine (rbool_ok b g off last d w h ho (by rw [hy]; split <;> omega)).mono fun e w' ⟨h1, h2⟩ => ⟨?_, h2⟩
  have ht : (n : Int).tmod 2 = (n : Int) % 2 := Int.tmod_eq_emod_of_nonneg (by omega)
  rw [h1, hy, ht]
  by_cases hc : n % 2 = 1
  · rw [if_pos hc]
    have : ((n : Int) % 2 == 1) = true := by simp; omega
    rw [this]; rfl
  · rw [if_neg hc]
    have : ((n : Int) % 2 == 1) = false := by simp; omega
    rw [this]; rfl

set_option maxRecDepth 100000 in
set_option maxHeartbeats 800000 in
theorem get2 (b g off last n : Nat) (ao : Option Addr) (ml cap : Nat) (d r : List Int) (w : World) (h : Rst w b g d off last 0) (hd : d.drop off = (if n % 2 = 1 then 1 else 0) :: r) :
    Calls Try.prog 15 #[.pointer (some ⟨b, 0, none⟩), .agg #[.int .i64 2, .int .u64 n, .slice ao ml cap]] w fun e w' => e = .returned (.bool true) ∧ Got w w' b g d (off + 1) := by
  have HD := hid_of hd
  have H := hid_of h
  have hb := h.blt
  clear hd h
  go_enter Try.func15, Try.ntmps15
  go_wp2
  go_region_with (go_at_call 22; refine (rbool_n b g off last n d r _ (H.out.inBox _) HD.out).mono ?_; rintro e w2 ⟨rfl, h2⟩; have cN := box_at (j := 1) hb h2.2.1 rfl; have R := hid_of h2.got; clear h2)
  all_goals go_wp2
  all_goals go_ret
  all_goals exact ⟨rfl, R.out.ofAlloc⟩

theorem decRun_enc (m r : List Int) (h : m.length < 18446744073709551616) : decRun (enc m.length ++ (m ++ r)) = some ((enc m.length).length, m.length) := by
  unfold decRun
  rw [dec_enc _ _ h]
  simp

/-- Bytes that were written are read. -/
theorem rbytes_m (b g off last : Nat) (d m r : List Int) (w : World) (h : Rst w b g d off last 0) (hm : m.length < 18446744073709551616) (hd : d.drop off = enc m.length ++ (m ++ r)) :
    Calls Try.prog 23 #[.pointer (some ⟨b, 0, none⟩)] w fun e w' => e = .returned (.slice (some ⟨w.heap.size, 0, none⟩) m.length m.length) ∧
      w'.heap[w.heap.size]? = some (.cells (bs m).toArray 5 (0, 0)) ∧ Got w w' b g d (off + (enc m.length ++ m).length) ∧ Kept (fun k => k = b) w w' := by
  refine (rbytes_ok b g off last (enc m.length).length m.length d w h (by rw [hd]; exact decRun_enc m r hm)).mono fun e w' ⟨h1, h2, h3, h4⟩ => ⟨h1, ?_, ⟨off, ?_, h4⟩, h4⟩
  · rw [h3, ← List.drop_drop, hd, List.drop_left, List.take_left]
  · rw [List.length_append, ← Nat.add_assoc]; exact h2
theorem rtext_m (b g off last : Nat) (d m r : List Int) (w : World) (h : Rst w b g d off last 0) (hm : m.length < 18446744073709551616) (hd : d.drop off = enc m.length ++ (m ++ r)) :
    Calls Try.prog 24 #[.pointer (some ⟨b, 0, none⟩)] w fun e w' => e = .returned (.string (strOfNums m)) ∧ Got w w' b g d (off + (enc m.length ++ m).length) ∧ Kept (fun k => k = b) w w' := by
  refine (rtext_ok b g off last (enc m.length).length m.length d w h (by rw [hd]; exact decRun_enc m r hm)).mono fun e w' ⟨h1, h2⟩ => ⟨?_, ⟨off, ?_, h2.2.1⟩, h2.2.1⟩
  · rw [h1, ← List.drop_drop, hd, List.drop_left, List.take_left]
  · rw [List.length_append, ← Nat.add_assoc]; exact h2.1

theorem conv_src {w : World} {ao : Option Addr} {m : List Int} {cap : Nat} (h : 0 < m.length → ∃ ad, ao = some ad ∧ ∀ j u, (bs m)[j]? = some u → w.cell? (ad.add j) = some u) :
    (convert 25 9 (.slice ao m.length cap)).run Try.prog w = .ok (.string (strOfNums m)) w :=
  run_str w 25 9 5 Try.underlying25 Try.underlying5 Try.underlying9 ao m cap h

/-- The item's bytes are no part of the Reader. -/
def Off (w : World) (b : Nat) (ao : Option Addr) (m : List Int) : Prop := 0 < m.length → ∃ ad, ao = some ad ∧ ad.block < w.heap.size ∧ ad.block ≠ b ∧ ∀ j u, (bs m)[j]? = some u → w.cell? (ad.add j) = some u
theorem Off.src {w : World} {b : Nat} {ao : Option Addr} {m : List Int} (h : Off w b ao m) : 0 < m.length → ∃ ad, ao = some ad ∧ ∀ j u, (bs m)[j]? = some u → w.cell? (ad.add j) = some u := fun h0 => by
  obtain ⟨ad, h1, _, _, h2⟩ := h h0; exact ⟨ad, h1, h2⟩
theorem Off.kept {w w' : World} {b : Nat} {ao : Option Addr} {m : List Int} (h : Off w b ao m) (hk : Kept (fun k => k = b) w w') : Off w' b ao m := fun h0 => by
  obtain ⟨ad, h1, h2, h3, h4⟩ := h h0
  refine ⟨ad, h1, Nat.lt_of_lt_of_le h2 hk.size, h3, fun j u hu => ?_⟩
  rw [World.cell?_of_block (w := w) (by rw [add_block]; exact hk.block _ h2 h3)]
  exact h4 j u hu
theorem kept_box (w : World) (b m : Nat) (o : Obj) : Kept (fun k => k = b) w ((w.alloc o).drewN m) := ((Kept.refl _ (w.alloc o)).of_alloc).drewN m

theorem conv_row1 {w w2 : World} {o : Obj} {m : Nat} {l : List Int} (h : w2.heap[((w.alloc o).drewN m).heap.size]? = some (.cells (bs l).toArray 5 (0, 0))) :
    (convert 25 9 (.slice (some ⟨w.heap.size + 1, 0, none⟩) l.length l.length)).run Try.prog w2 = .ok (.string (strOfNums l)) w2 := by
  have e : ((w.alloc o).drewN m).heap.size = w.heap.size + 1 := by simp
  rw [e] at h
  exact conv_row h

set_option maxRecDepth 100000 in
set_option maxHeartbeats 1600000 in
theorem get3 (b g off last n : Nat) (ao : Option Addr) (m : List Int) (cap : Nat) (d r : List Int) (w : World) (h : Rst w b g d off last 0) (ho : Off w b ao m) (hm : m.length < 18446744073709551616) (hd : d.drop off = enc m.length ++ (m ++ r)) :
    Calls Try.prog 15 #[.pointer (some ⟨b, 0, none⟩), .agg #[.int .i64 3, .int .u64 n, .slice ao m.length cap]] w fun e w' => e = .returned (.bool true) ∧ Got w w' b g d (off + (enc m.length ++ m).length) := by
  have HD := hid_of hd
  have H := hid_of h
  have hb := h.blt
  have HO := hid_of (ho.kept (kept_box w b 1 (.cells #[.int .i64 3, .int .u64 n, .slice ao m.length cap] 32)))
  clear hd h ho
  go_enter Try.func15, Try.ntmps15
  go_wp2
  have cv0 : (convert 25 9 (.slice ao m.length cap)).run Try.prog (w.alloc (.cells #[.int .i64 3, .int .u64 n, .slice ao m.length cap] 32)).drew = .ok (.string (strOfNums m)) (w.alloc (.cells #[.int .i64 3, .int .u64 n, .slice ao m.length cap] 32)).drew := conv_src (cap := cap) HO.out.src
  go_region_with (go_at_call 23; refine (rbytes_m b g off last d m r _ (H.out.inBox _) hm HD.out).mono ?_; rintro e w2 ⟨rfl, hr2, h2, hk2⟩; have cN := box_at (j := 2) hb hk2 rfl; have cv1 := conv_src (cap := cap) (HO.out.kept hk2).src; have cv2 := conv_row1 hr2; have R := hid_of h2; clear h2 hr2 hk2)
  all_goals go_wp2
  all_goals go_ret
  all_goals exact ⟨rfl, R.out.ofAlloc⟩

set_option maxRecDepth 100000 in
set_option maxHeartbeats 1600000 in
theorem get4 (b g off last n : Nat) (kind : Int) (ao : Option Addr) (m : List Int) (cap : Nat) (d r : List Int) (w : World) (k0 : (kind == 0) = false) (k1 : (kind == 1) = false) (k2 : (kind == 2) = false) (k3 : (kind == 3) = false) (h : Rst w b g d off last 0) (ho : Off w b ao m) (hm : m.length < 18446744073709551616) (hd : d.drop off = enc m.length ++ (m ++ r)) :
    Calls Try.prog 15 #[.pointer (some ⟨b, 0, none⟩), .agg #[.int .i64 kind, .int .u64 n, .slice ao m.length cap]] w fun e w' => e = .returned (.bool true) ∧ Got w w' b g d (off + (enc m.length ++ m).length) := by
  have HD := hid_of hd
  have H := hid_of h
  have hb := h.blt
  have HO := hid_of (ho.kept (kept_box w b 1 (.cells #[.int .i64 kind, .int .u64 n, .slice ao m.length cap] 32)))
  clear hd h ho
  go_enter Try.func15, Try.ntmps15
  go_wp2
  have cv0 : (convert 25 9 (.slice ao m.length cap)).run Try.prog (w.alloc (.cells #[.int .i64 kind, .int .u64 n, .slice ao m.length cap] 32)).drew = .ok (.string (strOfNums m)) (w.alloc (.cells #[.int .i64 kind, .int .u64 n, .slice ao m.length cap] 32)).drew := conv_src (cap := cap) HO.out.src
  go_region_with (go_at_call 24; refine (rtext_m b g off last d m r _ (H.out.inBox _) hm HD.out).mono ?_; rintro e w2 ⟨rfl, h2, hk2⟩; have cN := box_at (j := 2) hb hk2 rfl; have cv1 := conv_src (cap := cap) (HO.out.kept hk2).src; have R := hid_of h2; clear h2 hk2)
  all_goals go_wp2
  all_goals go_ret
  all_goals exact ⟨rfl, R.out.ofAlloc⟩

/-- An item that lies at the offset is read back. -/
theorem get_any (x : It) (b g off last : Nat) (d r : List Int) (w : World) (h : Rst w b g d off last 0) (hn : x.n < 18446744073709551616) (hm : x.m.length ≤ 60000000000000) (ho : Off w b x.ao x.m) (hd : d.drop off = encIt x ++ r) :
    Calls Try.prog 15 #[.pointer (some ⟨b, 0, none⟩), .agg #[.int .i64 x.kind, .int .u64 x.n, .slice x.ao x.m.length x.cap]] w fun e w' => e = .returned (.bool true) ∧ Got w w' b g d (off + (encIt x).length) := by
  obtain ⟨kind, n, ao, m, cap⟩ := x
  simp only at hn hm ho ⊢
  by_cases k0 : kind = 0
  · subst k0
    rw [encIt0] at hd ⊢
    exact get0 b g off last n ao m.length cap d r w h hn hd
  · by_cases k1 : kind = 1
    · subst k1
      rw [encIt1] at hd ⊢
      exact get1 b g off last n ao m.length cap d r w h hd
    · by_cases k2 : kind = 2
      · subst k2
        rw [encIt2] at hd ⊢
        exact get2 b g off last n ao m.length cap d r w h hd
      · have HE : encIt ⟨kind, n, ao, m, cap⟩ = enc m.length ++ m := by unfold encIt; rw [if_neg k0, if_neg k1, if_neg k2]
        rw [HE, List.append_assoc] at hd
        rw [HE]
        by_cases k3 : kind = 3
        · subst k3
          exact get3 b g off last n ao m cap d r w h ho (by omega) hd
        · exact get4 b g off last n kind ao m cap d r w (by simp [k0]) (by simp [k1]) (by simp [k2]) (by simp [k3]) h ho (by omega) hd

end Go.Proofs.Ytijjaoabkbeeeaa
