/- Field of package lattice, where there is the field. Bounds on sizes alone. -/
import Derived.Test.YtoogcafceghdjaaLatIdx
namespace Go.Proofs.Ytoogcafceghdjaa
open Go.RowKit

set_option maxRecDepth 100000 in
set_option maxHeartbeats 3200000 in
theorem field_yes (lo hi : Int) (an : Option Addr) (nn cn : Nat) (g o np cp : Nat) (ar : Option Addr) (nr cr : Nat) (kA loA hiA : Int) (anA : Option Addr) (nnA cnA : Nat) (apA : Option Addr) (npA cpA : Nat) (arA : Option Addr) (nrA crA : Nat) (ns : List Str) (s : Str) (i : Nat) (w : World) (R : Rd w (.slice an nn cn) (ss ns)) (hat : At ns s i) (hin : i < np) (hnp : np ≤ 9223372036854775807)
    (hc : ∀ w', Below w.heap.size w w' → w'.cell? ⟨g, o + i * 6, none⟩ = some (.int .i64 kA) ∧ w'.cell? ⟨g, o + i * 6 + 1, none⟩ = some (.int .i64 loA) ∧ w'.cell? ⟨g, o + i * 6 + 2, none⟩ = some (.int .i64 hiA) ∧ w'.cell? ⟨g, o + i * 6 + 3, none⟩ = some (.slice anA nnA cnA) ∧ w'.cell? ⟨g, o + i * 6 + 4, none⟩ = some (.slice apA npA cpA) ∧ w'.cell? ⟨g, o + i * 6 + 5, none⟩ = some (.slice arA nrA crA))
    (Q : Array Value → World → Prop)
    (CL : ∀ wz, Below w.heap.size w wz → w.heap.size + 2 ≤ wz.heap.size → Calls Try.prog 40 #[.agg #[.int .i64 kA, .int .i64 loA, .int .i64 hiA, .slice anA nnA cnA, .slice apA npA cpA, .slice arA nrA crA]] wz fun e w' => ∃ cells, e = .returned (.agg cells) ∧ cells.size = 6 ∧ cells.all (·.oneCell') = true ∧ Below wz.heap.size wz w' ∧ Q cells w') :
    Calls Try.prog 15 #[.agg #[.int .i64 6, .int .i64 lo, .int .i64 hi, .slice an nn cn, .slice (some ⟨g, o, none⟩) np cp, .slice ar nr cr], .string (ba s)] w fun e w' => ∃ cells w3, e = .returned (.tuple #[.agg cells, .bool true]) ∧ Q cells w3 ∧ w' = w3.setRow (w.heap.size + 1) cells ∧ Below w.heap.size w w' := by
  obtain ⟨bs, hbs⟩ : ∃ bs, bs = ba s := ⟨_, rfl⟩
  have HBW : Hid (Below w.heap.size w ((w.alloc (.cells #[.int .i64 6, .int .i64 lo, .int .i64 hi, .slice an nn cn, .slice (some ⟨g, o, none⟩) np cp, .slice ar nr cr] 26)).alloc (.cells #[.int .i64 0, .int .i64 0, .int .i64 0, .slice none 0 0, .slice none 0 0, .slice none 0 0] 26))) := hid_of ((bel_alloc w _).trans ((bel_alloc _ _).mono (by simp)))
  obtain ⟨q1, q2⟩ := two_new w (.cells #[.int .i64 6, .int .i64 lo, .int .i64 hi, .slice an nn cn, .slice (some ⟨g, o, none⟩) np cp, .slice ar nr cr] 26) (.cells #[.int .i64 0, .int .i64 0, .int .i64 0, .slice none 0 0, .slice none 0 0, .slice none 0 0] 26)
  have IX := hid_of (index_any ns s i an nn cn ((w.alloc (.cells #[.int .i64 6, .int .i64 lo, .int .i64 hi, .slice an nn cn, .slice (some ⟨g, o, none⟩) np cp, .slice ar nr cr] 26)).alloc (.cells #[.int .i64 0, .int .i64 0, .int .i64 0, .slice none 0 0, .slice none 0 0, .slice none 0 0] 26)) (R.at HBW.out) hat)
  rw [← hbs] at IX ⊢
  obtain ⟨c0, c1, c2, c3, c4, c5⟩ := hc ((w.alloc (.cells #[.int .i64 6, .int .i64 lo, .int .i64 hi, .slice an nn cn, .slice (some ⟨g, o, none⟩) np cp, .slice ar nr cr] 26)).alloc (.cells #[.int .i64 0, .int .i64 0, .int .i64 0, .slice none 0 0, .slice none 0 0, .slice none 0 0] 26)) HBW.out
  have CLL := hid_of (CL ((w.alloc (.cells #[.int .i64 6, .int .i64 lo, .int .i64 hi, .slice an nn cn, .slice (some ⟨g, o, none⟩) np cp, .slice ar nr cr] 26)).alloc (.cells #[.int .i64 0, .int .i64 0, .int .i64 0, .slice none 0 0, .slice none 0 0, .slice none 0 0] 26)) HBW.out (by simp))
  have HB2 : Hid (∀ w3, Below (((w.alloc (.cells #[.int .i64 6, .int .i64 lo, .int .i64 hi, .slice an nn cn, .slice (some ⟨g, o, none⟩) np cp, .slice ar nr cr] 26)).alloc (.cells #[.int .i64 0, .int .i64 0, .int .i64 0, .slice none 0 0, .slice none 0 0, .slice none 0 0] 26))).heap.size ((w.alloc (.cells #[.int .i64 6, .int .i64 lo, .int .i64 hi, .slice an nn cn, .slice (some ⟨g, o, none⟩) np cp, .slice ar nr cr] 26)).alloc (.cells #[.int .i64 0, .int .i64 0, .int .i64 0, .slice none 0 0, .slice none 0 0, .slice none 0 0] 26)) w3 → w3.heap[w.heap.size + 1]? = some (.cells #[.int .i64 0, .int .i64 0, .int .i64 0, .slice none 0 0, .slice none 0 0, .slice none 0 0] 26)) := hid_of (fun w3 h => (h.block _ (by simp)).trans q2)
  have d1 : decide ((i : Int) < 0) = false := decide_eq_false (by omega)
  have d2 : decide (np ≤ i) = false := decide_eq_false (by omega)
  have d3 : decide ((np : Int) ≤ (i : Int)) = false := decide_eq_false (by omega)
  have hi' : (i : Int) < (np : Int) := by omega
  clear hc CL R hat hbs q1 q2
  go_enter Try.func15, Try.ntmps15
  go_wp2_with (first
    | (go_at_call 39; ((with_reducible refine (IX.out).mono ?_); (rintro e w2 ⟨rfl, rfl⟩)))
    | (go_at_call 40; ((with_reducible refine (CLL.out).mono ?_); (rintro e w3 ⟨cells, rfl, hcs, h1, h2, hq⟩)); (have H3 := hid_of h2); (have HCS := hid_of hcs); (have H1 := hid_of h1); (have HQ := hid_of hq); clear hcs h1 h2 hq)
    | (refine wpList_store_row rfl 26 (.tmp 4) (.tmp 31) rfl (w.heap.size + 1) cells rfl rfl 26 _ (HB2.out w3 H3.out) (by rw [HCS.out]; exact infoLat) (by rw [HCS.out]; rfl) H1.out ?_))
  refine bodyPost_ret (res_ct (cs := cells) rfl (w.heap.size + 1) rfl (setRow_heap _ _ _ cells _ _ (HB2.out w3 H3.out)) Try.underlying26 rfl (by rw [HCS.out]; exact infoLat)) rfl ⟨cells, w3, rfl, HQ.out, rfl, ?_⟩
  exact below_setRow (HBW.out.trans (H3.out.mono (by simp; omega))) (by omega) cells
end Go.Proofs.Ytoogcafceghdjaa
