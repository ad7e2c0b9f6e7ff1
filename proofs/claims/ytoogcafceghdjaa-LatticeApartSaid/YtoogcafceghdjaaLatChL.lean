/- Check of package lattice, the whole. Bounds on sizes alone. -/
import Derived.Test.YtoogcafceghdjaaLatChk
import Derived.Laws.EntriesVeiled
namespace Go.Proofs.Ytoogcafceghdjaa
open Go.RowKit

theorem three_new (w : World) (o o2 o3 : Obj) : (((w.alloc o).alloc o2).alloc o3).heap[w.heap.size]? = some o ∧ (((w.alloc o).alloc o2).alloc o3).heap[w.heap.size + 1]? = some o2 ∧ (((w.alloc o).alloc o2).alloc o3).heap[w.heap.size + 1 + 1]? = some o3 := by
  obtain ⟨q1, q2⟩ := two_new w o o2
  have hs : ((w.alloc o).alloc o2).heap.size = w.heap.size + 1 + 1 := by simp
  have hb := bel_alloc ((w.alloc o).alloc o2) o3
  refine ⟨(hb.block _ (by omega)).trans q1, (hb.block _ (by omega)).trans q2, ?_⟩
  have := heap_alloc_new ((w.alloc o).alloc o2) o3
  rwa [hs] at this
set_option maxRecDepth 100000 in
set_option maxHeartbeats 6400000 in
theorem check_any (t : Lat) (k lo hi : Int) (an : Option Addr) (nn cn : Nat) (ap : Option Addr) (np cp : Nat) (ar : Option Addr) (nr cr : Nat) (w : World) (H : LO w k lo hi an nn cn ap np cp ar nr cr t) : Calls Try.prog 13 #[.agg #[.int .i64 k, .int .i64 lo, .int .i64 hi, .slice an nn cn, .slice ap np cp, .slice ar nr cr]] w (ErP (chkL t) w) := by
  obtain ⟨r, hr⟩ : ∃ r, r = chkL t := ⟨_, rfl⟩
  rw [← hr]
  have HR := hid_of hr
  have hmf : ∀ (fn : Fn) (first cap : Array Value) (w : World), (Instr.makeFunc fn first cap).run Try.prog w = .ok (.func fn first cap) w := fun _ _ _ _ => rfl
  have HB := hid_of (bel_alloc w (.cells #[.int .i64 k, .int .i64 lo, .int .i64 hi, .slice an nn cn, .slice ap np cp, .slice ar nr cr] 26))
  have HBW : Hid (Below w.heap.size w (((w.alloc (.cells #[.int .i64 k, .int .i64 lo, .int .i64 hi, .slice an nn cn, .slice ap np cp, .slice ar nr cr] 26)).alloc (.cells #[.int .i64 0] 3)).alloc (.cells #[.func (.func 33) #[] #[.pointer (some ⟨w.heap.size + 1, 0, none⟩), .pointer (some ⟨w.heap.size + 1 + 1, 0, none⟩)]] 64))) := hid_of (((HB.out.alloc (by simp) _).alloc (by simp; omega) _))
  obtain ⟨q1, q2, q3⟩ := three_new w (.cells #[.int .i64 k, .int .i64 lo, .int .i64 hi, .slice an nn cn, .slice ap np cp, .slice ar nr cr] 26) (.cells #[.int .i64 0] 3) (.cells #[.func (.func 33) #[] #[.pointer (some ⟨w.heap.size + 1, 0, none⟩), .pointer (some ⟨w.heap.size + 1 + 1, 0, none⟩)]] 64)
  have CALL := hid_of (check1_any w (w.heap.size + 1) (w.heap.size + 1 + 1) (by omega) (by omega) t k lo hi an nn cn ap np cp ar nr cr 1 0 (((w.alloc (.cells #[.int .i64 k, .int .i64 lo, .int .i64 hi, .slice an nn cn, .slice ap np cp, .slice ar nr cr] 26)).alloc (.cells #[.int .i64 0] 3)).alloc (.cells #[.func (.func 33) #[] #[.pointer (some ⟨w.heap.size + 1, 0, none⟩), .pointer (some ⟨w.heap.size + 1 + 1, 0, none⟩)]] 64)) H HBW.out q2 (cell_blk (cs := [.func (.func 33) #[] #[.pointer (some ⟨w.heap.size + 1, 0, none⟩), .pointer (some ⟨w.heap.size + 1 + 1, 0, none⟩)]]) q3 rfl) (by simp) (by omega) (by omega))
  have HX : Hid ((((w.alloc (.cells #[.int .i64 k, .int .i64 lo, .int .i64 hi, .slice an nn cn, .slice ap np cp, .slice ar nr cr] 26)).alloc (.cells #[.int .i64 0] 3)).alloc (.cells #[.func (.func 33) #[] #[.pointer (some ⟨w.heap.size + 1, 0, none⟩), .pointer (some ⟨w.heap.size + 1 + 1, 0, none⟩)]] 64)).cell? ⟨w.heap.size, 0, none⟩ = some (.int .i64 k)) := hid_of (cell_blk (cs := [.int .i64 k, .int .i64 lo, .int .i64 hi, .slice an nn cn, .slice ap np cp, .slice ar nr cr]) q1 rfl)
  obtain ⟨_, _, n3⟩ := three_new w (.cells #[.int .i64 k, .int .i64 lo, .int .i64 hi, .slice an nn cn, .slice ap np cp, .slice ar nr cr] 26) (.cells #[.int .i64 0] 3) (.cells #[.nilFunc] 64)
  have hcs := cell_blk (cs := [Value.nilFunc]) n3 (j := 0) rfl
  have hfz : ((((w.alloc (.cells #[.int .i64 k, .int .i64 lo, .int .i64 hi, .slice an nn cn, .slice ap np cp, .slice ar nr cr] 26)).alloc (.cells #[.int .i64 0] 3)).alloc (.cells #[.nilFunc] 64))).frozen? ⟨w.heap.size + 1 + 1, 0, none⟩ = false := by simp only [World.frozen?, n3]; rfl
  clear hr q1 q2 q3 n3 H
  go_enter Try.func13, Try.ntmps13
  go_wp2_with (go_at_call 33; go_loud (refine (CALL.out).mono ?_; rintro e w3 ⟨rfl, h3, h4⟩; have C3 := hid_of h3; have K3 := hid_of h4; clear h3 h4))
  go_ret
  exact ⟨ret_i (by rw [HR.out]; rfl), HBW.out.trans (K3.out.below (by simp; omega) (fun k hk => by omega))⟩
end Go.Proofs.Ytoogcafceghdjaa
