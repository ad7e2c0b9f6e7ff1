/- The walk of WireWrites. No condition. -/
import Derived.Test.YtijjaoabkbeeeaaWireRef
import Derived.Deep.RegionWith
namespace Go.Proofs.Ytijjaoabkbeeeaa
open Go.RowKit

theorem ItOk.later {B B' : Nat} {w w' : World} {x : It} (h : ItOk B w x) (hb : Below B w w') (hB : B ≤ B') : ItOk B' w' x :=
  ⟨h.n, h.len, h.nil, h.rng, fun h0 => by
    obtain ⟨ad, h1, h2, h3⟩ := h.src h0
    refine ⟨ad, h1, by omega, fun j u hu => ?_⟩
    rw [hb.cell (by rw [add_block]; exact h2)]
    exact h3 j u hu⟩
theorem Items.later {B : Nat} {w w' : World} {a o : Nat} {its : List It} (h : Items B w a o its) (hb : Below B w w') (hB : B ≤ w'.heap.size) : Items w'.heap.size w' a o its := by
  have hl : ∀ i x, its[i]? = some x → a < B := fun i x hx => h.lt (by have := (List.getElem?_eq_some_iff.1 hx).1; omega)
  refine ⟨fun h0 => by have := h.lt h0; omega, fun i x hx => ?_, fun i x hx => ?_, fun i x hx => ?_, fun x hx => (h.ok x hx).later hb hB⟩
  · rw [hb.cell (p := ⟨a, o + i * 3, none⟩) (hl i x hx)]; exact h.c0 i x hx
  · rw [hb.cell (p := ⟨a, o + i * 3 + 1, none⟩) (hl i x hx)]; exact h.c1 i x hx
  · rw [hb.cell (p := ⟨a, o + i * 3 + 2, none⟩) (hl i x hx)]; exact h.c2 i x hx

theorem encAll_le (its : List It) (hn : ∀ x ∈ its, x.n < 18446744073709551616) : ∀ k, tot its ≤ 60000000 → its.length ≤ 40 → (encAll (its.take k)).length ≤ tot (its.take k) + 20 * k := by
  intro k ht hl
  induction k with
  | zero => simp [encAll, tot]
  | succ k ih =>
    rcases hx : its[k]? with _ | x
    · have h1 : its.length ≤ k := by simpa using hx
      have h2 := ih
      rw [List.take_of_length_le h1] at h2
      rw [List.take_of_length_le (by omega)]
      omega
    · have h1 := tot_take its k x hx
      have h2 := tot_le its (k + 1)
      have h3 := encIt_le20 x (hn x (List.mem_of_getElem? hx)) (by omega)
      rw [encAll_take_succ its k x hx, List.length_append]
      omega
theorem small_bound (its : List It) (hn : ∀ x ∈ its, x.n < 18446744073709551616) (hs : Small its) : ∀ k, (encAll (its.take k)).length ≤ 60000000000000 := by
  intro k
  rcases Nat.lt_or_ge k its.length with h | h
  · have h1 := encAll_le its hn k (by have := hs.2; omega) hs.1
    have h2 := tot_le its k
    have := hs.1
    have := hs.2
    omega
  · have h1 := encAll_le its hn its.length (by have := hs.2; omega) hs.1
    rw [List.take_of_length_le (Nat.le_refl _)] at h1
    rw [List.take_of_length_le h]
    have := hs.1
    have := hs.2
    omega

theorem conv_row {w : World} {g : Nat} {l : List Int} (h : w.heap[g]? = some (.cells (bs l).toArray 5 (0, 0))) :
    (convert 25 9 (.slice (some ⟨g, 0, none⟩) l.length l.length)).run Try.prog w = .ok (.string (strOfNums l)) w :=
  run_str w 25 9 5 Try.underlying25 Try.underlying5 Try.underlying9 _ l _ (row_src h)
theorem conv_own {w w0 : World} {B cap : Nat} {ao : Option Addr} {l : List Int} (h : OS B w0 w (.slice ao l.length cap) l) :
    (convert 25 9 (.slice ao l.length cap)).run Try.prog w = .ok (.string (strOfNums l)) w :=
  run_str w 25 9 5 Try.underlying25 Try.underlying5 Try.underlying9 _ l _ (own_src h.own)

theorem conv_row0 {w : World} {g : Nat} (h : w.heap[g]? = some (.cells (bs []).toArray 5 (0, 0))) :
    (convert 25 9 (.slice (some ⟨g, 0, none⟩) 0 0)).run Try.prog w = .ok (.string (strOfNums [])) w := conv_row (l := []) h
theorem conv_own0 {w w0 : World} {B cap : Nat} {ao : Option Addr} (h : OS B w0 w (.slice ao 0 cap) []) :
    (convert 25 9 (.slice ao 0 cap)).run Try.prog w = .ok (.string (strOfNums [])) w := conv_own (l := []) h
theorem bel3 {w a b c : World} (h1 : Below w.heap.size w a) (h2 : Below a.heap.size a b) (h3 : Below b.heap.size b c) : Below w.heap.size w c :=
  (h1.trans (h2.mono h1.size)).trans (h3.mono (Nat.le_trans h1.size h2.size))

set_option maxRecDepth 100000 in
set_option maxHeartbeats 1600000 in
theorem writes_small (a o : Nat) (its : List It) (cap : Nat) (w : World) (h : Items w.heap.size w a o its) (hs : Small its) :
    Calls Try.prog 3 #[.slice (some ⟨a, o, none⟩) its.length cap] w fun e w' => e = .returned (.bool true) ∧ Below w.heap.size w w' := by
  have hb := small_bound its (fun x hx => (h.ok x hx).n) hs
  have HB := hid_of hb
  have HI := hid_of h
  have HS := hid_of hs
  have hlen := hs.1
  clear hb h hs
  go_enter Try.func3, Try.ntmps3
  go_wp2_with (go_at_call 10; refine (awake_any w).mono ?_; rintro e w1 ⟨rfl, h1⟩; have H1 := hid_of h1; clear h1)
  have hD : Below w.heap.size w (w1.drewN 1) := below_drewN H1.out 1
  have HD := hid_of hD
  have HI1 := hid_of (HI.out.later hD H1.out.size)
  clear hD
  go_region_with (first
    | (go_at_call 11; refine (small_true a o its cap _ (by omega) HI1.out HS.out).mono ?_; rintro e w' ⟨rfl, rfl⟩)
    | (go_at_call 12; first
        | (refine (written_any a o its cap (w1.drewN 1) HI1.out (by omega) HB.out).mono ?_; rintro e w2 ⟨g2, rfl, hr2, hg2, hb2⟩; have cv := conv_row hr2; have HW := hid_of (And.intro hr2 (And.intro hg2 hb2)); clear hr2 hg2 hb2)
        | (refine (written_any a o its cap _ (HI1.out.later HA.out.bel HA.out.size) (by omega) HB.out).mono ?_; rintro e w2 ⟨g2, rfl, hr2, hg2, hb2⟩; have cv := conv_row hr2; have cf2 := conv_own (HA.out.keep hb2); have HW := hid_of (And.intro hr2 (And.intro hg2 hb2)); clear hr2 hg2 hb2))
    | (go_at_call 13; first
        | (refine (fall_any a o its cap (w1.drewN 1) HI1.out (by omega) HB.out).mono ?_; rintro e w3 ⟨ao3, c3, rfl, h3⟩; have cf := conv_own h3; have HA := hid_of h3; clear h3)
        | (refine (fall_any a o its cap w2 (HI1.out.later HW.out.2.2 HW.out.2.2.size) (by omega) HB.out).mono ?_; rintro e w3 ⟨ao3, c3, rfl, h3⟩; have cf := conv_own h3; have cv3 := conv_row ((h3.bel.block _ (lt_of_block HW.out.1)).trans HW.out.1); have HA := hid_of h3; clear h3)))
  all_goals go_wp2
  all_goals go_ret
  all_goals refine ⟨rfl, ?_⟩
  all_goals first
    | exact bel3 HD.out HW.out.2.2 HA.out.bel
    | exact bel3 HD.out HA.out.bel HW.out.2.2

theorem small_false_q (a o : Nat) (its : List It) (cap : Nat) (w : World) (n : Nat) (hn : its.length ≤ 9223372036854775807) (hc : ∀ i x, its[i]? = some x → w.cell? ⟨a, o + i * 3 + 2, none⟩ = some (.slice x.ao x.m.length x.cap)) (hm : ∀ x ∈ its, x.m.length ≤ 9223372036854775807) (hs : ¬ Small its) :
    Calls Try.prog 11 #[.slice (some ⟨a, o, none⟩) its.length cap] (w.drewN n) fun e w' => e = .returned (.bool false) ∧ w' = w.drewN n :=
  (small_false a o its cap (w.drewN n) hn hc hm hs).mono fun _ _ h => ⟨h.1, h.2.symm⟩

set_option maxRecDepth 100000 in
set_option maxHeartbeats 800000 in
theorem writes_big (a o : Nat) (its : List It) (cap : Nat) (w : World) (hl : its.length ≤ 9223372036854775807) (ha : a < w.heap.size) (hc : ∀ i x, its[i]? = some x → w.cell? ⟨a, o + i * 3 + 2, none⟩ = some (.slice x.ao x.m.length x.cap)) (hm : ∀ x ∈ its, x.m.length ≤ 9223372036854775807) (hs : ¬ Small its) :
    Calls Try.prog 3 #[.slice (some ⟨a, o, none⟩) its.length cap] w fun e w' => e = .returned (.bool true) ∧ Below w.heap.size w w' := by
  have HC := hid_of hc
  have HM := hid_of hm
  have HS := hid_of hs
  clear hc hm hs
  go_enter Try.func3, Try.ntmps3
  go_wp2_with (go_at_call 10; refine (awake_any w).mono ?_; rintro e w1 ⟨rfl, h1⟩; have H1 := hid_of h1; clear h1)
  have HC1 : Hid (∀ i x, its[i]? = some x → w1.cell? ⟨a, o + i * 3 + 2, none⟩ = some (.slice x.ao x.m.length x.cap)) := hid_of fun i x hx => by
    rw [H1.out.cell (p := ⟨a, o + i * 3 + 2, none⟩) ha]; exact HC.out i x hx
  go_quiet ((go_at_call 11; exact Calls.quiet_of_same (small_false_q a o its cap w1 _ hl HC1.out HM.out HS.out)))
  go_wp2
  go_ret
  exact ⟨rfl, below_drewN H1.out _⟩

set_option maxRecDepth 100000 in
set_option maxHeartbeats 400000 in
theorem written_nil (ao : Option Addr) (cap : Nat) (w : World) :
    Calls Try.prog 12 #[.slice ao 0 cap] w fun e w' => ∃ g, e = .returned (.slice (some ⟨g, 0, none⟩) 0 0) ∧
      w'.heap[g]? = some (.cells (bs []).toArray 5 (0, 0)) ∧ w.heap.size ≤ g ∧ Below w.heap.size w w' := by
  have H0 := hid_of (ws_new w)
  go_enter Try.func12, Try.ntmps12
  go_wp2
  refine wp_loop_rounds 1 ?_
  rw [rounds_succ]
  go_wp2_with (go_at_call 27; refine (data_ws w.heap.size w.heap.size [] w _ H0.out (by simp)).mono ?_; rintro e w1 ⟨rfl, h1, h2⟩; have H1 := hid_of h1; have H2 := hid_of h2; clear h1 h2)
  go_ret
  exact ⟨_, rfl, by have := H1.out; simpa using this, by omega, H2.out.bel⟩

set_option maxRecDepth 100000 in
set_option maxHeartbeats 400000 in
theorem fall_nil (ao : Option Addr) (cap : Nat) (w : World) :
    Calls Try.prog 13 #[.slice ao 0 cap] w fun e w' => ∃ ao c, e = .returned (.slice ao 0 c) ∧ OS w.heap.size w w' (.slice ao 0 c) [] := by
  have H0 := hid_of (OS.empty w)
  go_enter Try.func13, Try.ntmps13
  go_wp2
  refine wp_loop_rounds 1 ?_
  rw [rounds_succ]
  go_wp2
  go_ret
  exact ⟨_, _, rfl, H0.out⟩

set_option maxRecDepth 100000 in
set_option maxHeartbeats 1600000 in
theorem writes_nil (ao : Option Addr) (cap : Nat) (w : World) :
    Calls Try.prog 3 #[.slice ao 0 cap] w fun e w' => e = .returned (.bool true) ∧ Below w.heap.size w w' := by
  go_enter Try.func3, Try.ntmps3
  go_wp2_with (go_at_call 10; refine (awake_any w).mono ?_; rintro e w1 ⟨rfl, h1⟩; have H1 := hid_of h1; clear h1)
  have HD := hid_of (below_drewN H1.out 1)
  go_region_with (first
    | (go_at_call 11; refine (small_nil ao cap _).mono ?_; rintro e w' ⟨rfl, rfl⟩)
    | (go_at_call 12; first
        | (have tok := HA.out; refine (written_nil ao cap w3).mono ?_; rintro e w2 ⟨g2, rfl, hr2, hg2, hb2⟩; have cv := conv_row0 hr2; have cf2 := conv_own0 (HA.out.keep hb2); have HW := hid_of (And.intro hr2 (And.intro hg2 hb2)); clear hr2 hg2 hb2 tok)
        | (refine (written_nil ao cap (w1.drewN 1)).mono ?_; rintro e w2 ⟨g2, rfl, hr2, hg2, hb2⟩; have cv := conv_row0 hr2; have HW := hid_of (And.intro hr2 (And.intro hg2 hb2)); clear hr2 hg2 hb2))
    | (go_at_call 13; first
        | (have tok := HW.out; refine (fall_nil ao cap w2).mono ?_; rintro e w3 ⟨ao3, c3, rfl, h3⟩; have cf := conv_own0 h3; have cv3 := conv_row0 ((h3.bel.block _ (lt_of_block HW.out.1)).trans HW.out.1); have HA := hid_of h3; clear h3 tok)
        | (refine (fall_nil ao cap (w1.drewN 1)).mono ?_; rintro e w3 ⟨ao3, c3, rfl, h3⟩; have cf := conv_own0 h3; have HA := hid_of h3; clear h3)))
  all_goals go_wp2
  all_goals go_ret
  all_goals refine ⟨rfl, ?_⟩
  all_goals first
    | exact bel3 HD.out HW.out.2.2 HA.out.bel
    | exact bel3 HD.out HA.out.bel HW.out.2.2

end Go.Proofs.Ytijjaoabkbeeeaa
