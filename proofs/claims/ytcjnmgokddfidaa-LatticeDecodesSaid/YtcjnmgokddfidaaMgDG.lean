/- Texts in one: LatQd, LatQy, LatREq, LatRnm. -/
import Derived.Test.YtcjnmgokddfidaaMgDF
import Derived.Deep.CutRange
import Derived.Deep.RegionLaw
import Derived.Deep.RegionHeld3
set_option linter.unusedVariables false
set_option linter.unusedSimpArgs false
/- read of package lattice, whatever it reads. Bounds on sizes alone. Parallel to LatRd (never imported together). -/
namespace Go.Proofs.Ytcjnmgokddfidaa
open Go.RowKit
set_option maxRecDepth 100000
set_option maxHeartbeats 3200000

theorem tR_len (d : List Int) (s : Option Nat) : (strU (Wr.tR d s).1).length ≤ d.length := by
  unfold strU
  rw [List.length_map]
  unfold Wr.tR
  split
  · simp
  · split
    · simp only [List.length_take, List.length_drop]; omega
    · simp
theorem tN_small (d : List Int) (s : Option Nat) : ∀ j, ∀ x ∈ (tN d s j).1, x.length ≤ d.length
  | 0, x, h => by simp [tN] at h
  | j + 1, x, h => by
    rw [tN] at h
    rcases List.mem_append.1 h with h | h
    · exact tN_small d s j x h
    · rw [List.mem_singleton.1 h]; exact tR_len d _
theorem nF_small (d : List Int) (s : Option Nat) : (∀ x ∈ (nF d s).1, x.length ≤ d.length) ∧ (nF d s).1.length ≤ 32 := ⟨tN_small d _ _, by rw [nF, tN_len]; exact rcF_le d 32 s⟩
theorem pN_small (f : Option Nat → Lat × Option Nat) (d : List Int) (s : Option Nat) : ∀ j, ∀ x ∈ (pN f d s j).1.1, x.length ≤ d.length
  | 0, x, h => by simp [pN] at h
  | j + 1, x, h => by
    rw [pN] at h
    rcases List.mem_append.1 h with h | h
    · exact pN_small f d s j x h
    · rw [List.mem_singleton.1 h]; exact tR_len d _
theorem gN_small (d : List Int) (s : Option Nat) : ∀ j, ∀ r ∈ (gN d s j).1, (∀ x ∈ r.1, x.length ≤ d.length) ∧ r.1.length ≤ 32 ∧ r.2.length ≤ d.length
  | 0, r, h => by simp [gN] at h
  | j + 1, r, h => by
    rw [gN] at h
    rcases List.mem_append.1 h with h | h
    · exact gN_small d s j r h
    · rw [List.mem_singleton.1 h]; exact ⟨(nF_small d _).1, (nF_small d _).2, tR_len d _⟩
theorem pN_take (f : Option Nat → Lat × Option Nat) (d : List Int) (s : Option Nat) (j : Nat) : ∀ n, j ≤ n → (pN f d s n).1.1.take j = (pN f d s j).1.1
  | 0, h => by
    obtain rfl : j = 0 := by omega
    rfl
  | n + 1, h => by
    rcases Nat.lt_or_ge j (n + 1) with h1 | h1
    · rw [pN]
      simp only
      rw [List.take_append_of_le_length (by rw [(pN_len f d s n).1]; omega)]
      exact pN_take f d s j n (by omega)
    · obtain rfl : j = n + 1 := by omega
      exact List.take_of_length_le (by rw [(pN_len f d s (n + 1)).1]; exact Nat.le_refl _)
theorem pN_get (f : Option Nat → Lat × Option Nat) (d : List Int) (s : Option Nat) (j : Nat) : ∀ n, j < n → (pN f d s n).1.1[j]? = some (strU (Wr.tR d (pN f d s j).2).1) ∧ (pN f d s n).1.2[j]? = some (f (Wr.tR d (pN f d s j).2).2).1
  | 0, h => by omega
  | n + 1, h => by
    obtain ⟨l1, l2⟩ := pN_len f d s n
    rw [pN]
    simp only
    rcases Nat.lt_or_ge j n with h1 | h1
    · rw [List.getElem?_append_left (by omega), List.getElem?_append_left (by omega)]
      exact pN_get f d s j n h1
    · obtain rfl : j = n := by omega
      rw [List.getElem?_append_right (by omega), List.getElem?_append_right (by omega), l1, l2, Nat.sub_self]
      exact ⟨rfl, rfl⟩
theorem gN_get (d : List Int) (s : Option Nat) (j : Nat) : ∀ n, j < n → (gN d s n).1[j]? = some ((nF d (gN d s j).2).1, strU (Wr.tR d (nF d (gN d s j).2).2).1)
  | 0, h => by omega
  | n + 1, h => by
    have l1 := gN_len d s n
    rw [gN]
    simp only
    rcases Nat.lt_or_ge j n with h1 | h1
    · rw [List.getElem?_append_left (by omega)]
      exact gN_get d s j n h1
    · obtain rfl : j = n := by omega
      rw [List.getElem?_append_right (by omega), l1, Nat.sub_self]
      rfl
theorem iR_r64 {w : World} {b g : Nat} {d : List Int} {s : Option Nat} (h : Wr.RS w b g d s) : R64 (Wr.iR d s).1 := by
  have := Wr.uR_lt h
  unfold Wr.iR Wr.unzig
  simp only
  split <;> exact ⟨by omega, by omega⟩
/-- The contract of read at a depth, n levels left. -/
def RQ (b g : Nat) (d : List Int) (n dep : Nat) : Prop := ∀ (s : Option Nat) (w : World), Wr.RS w b g d s →
  Calls Try.prog 24 #[.pointer (some ⟨b, 0, none⟩), .int .i64 dep] w (RdP b g d (rdF d n s).1 (rdF d n s).2 w)
section
variable (b g n dep : Nat) (d : List Int) (s : Option Nat) (w : World)
theorem rq_0 (hdep : 1 ≤ dep ∧ dep ≤ 6) (h : Wr.RS w b g d s) (hk : (Wr.uR d s).1 = 0) :
    Calls Try.prog 24 #[.pointer (some ⟨b, 0, none⟩), .int .i64 dep] w (RdP b g d (rdF d (n + 1) s).1 (rdF d (n + 1) s).2 w) := by
  have HBG : Hid (b < w.heap.size ∧ g < w.heap.size) := hid_of ⟨(rs_lt h).1, (rs_lt h).2.1⟩
  have hsm := (rs_lt h).2.2
  have hdd : decide ((dep : Int) > 6) = false := by simp; omega
  have hdw : IntKind.i64.wrap ((dep : Int) + 1) = (dep : Int) + 1 := IntWalk.i64_in _ (by omega)
  obtain ⟨s1, hs1⟩ : ∃ s1, s1 = (Wr.uR d s).2 := ⟨_, rfl⟩
  have EE : Hid (rdF d (n + 1) s = (⟨0, 0, 0, [], [], []⟩, s1)) := hid_of (by
    rw [rdF, hk, if_neg (by omega : ¬(10 < 0)), if_neg (by decide : ¬(0 = 2 ∨ 0 = 3)), if_neg (by decide : ¬(0 = 4 ∨ 0 = 8)), if_neg (by decide : ¬(0 = 5)), if_neg (by decide : ¬(0 = 6)), if_neg (by decide : ¬(0 = 7)), if_neg (by decide : ¬(0 = 10)), ← hs1]
    try rfl)
  rw [EE.out]
  show Calls Try.prog 24 #[.pointer (some ⟨b, 0, none⟩), .int .i64 dep] w (RdP b g d ⟨0, 0, 0, [], [], []⟩ (s1) w)
  have C0 : Hid (Calls Try.prog 50 #[.pointer (some ⟨b, 0, none⟩)] (w.alloc (.cells [.int .i64 0, .int .i64 0, .int .i64 0, .slice none 0 0, .slice none 0 0, .slice none 0 0].toArray 26 (0, 0))) (fun e w' => (e = .returned (.int .u64 0) ∧ w'.heap.size = (w.alloc (.cells [.int .i64 0, .int .i64 0, .int .i64 0, .slice none 0 0, .slice none 0 0, .slice none 0 0].toArray 26 (0, 0))).heap.size) ∧ RG b g d (w.alloc (.cells [.int .i64 0, .int .i64 0, .int .i64 0, .slice none 0 0, .slice none 0 0, .slice none 0 0].toArray 26 (0, 0))) w' s1)) := hid_of (by
    have h1 := uint_rg (RG.start (rs_same h ((bel_alloc w (.cells [.int .i64 0, .int .i64 0, .int .i64 0, .slice none 0 0, .slice none 0 0, .slice none 0 0].toArray 26 (0, 0))).block b HBG.out.1) ((bel_alloc w (.cells [.int .i64 0, .int .i64 0, .int .i64 0, .slice none 0 0, .slice none 0 0, .slice none 0 0].toArray 26 (0, 0))).block g HBG.out.2)))
    rw [hk, ← hs1] at h1
    exact h1)
  have S1 : Hid (∀ w1, RG b g d (w.alloc (.cells [.int .i64 0, .int .i64 0, .int .i64 0, .slice none 0 0, .slice none 0 0, .slice none 0 0].toArray 26 (0, 0))) w1 s1 → RS b g d w w1.heap.size (.int .i64 0) (.int .i64 0) (.int .i64 0) (.slice none 0 0) (.slice none 0 0) (.slice none 0 0) s1 (w1.alloc (.cells [.int .i64 0, .int .i64 0, .int .i64 0, .slice none 0 0, .slice none 0 0, .slice none 0 0].toArray 26 (0, 0)))) := hid_of (fun w1 k => RS.start k HBG.out _)
  clear hdep h hk hs1 hsm
  go_enter Try.func24, Try.ntmps24
  go_wp2_with (first
    | (go_at_call 50; ((with_reducible refine (C0.out).mono ?_); (rintro e w1 ⟨⟨rfl, q0⟩, q1⟩)); have R1 := hid_of (S1.out w1 q1); clear q0 q1)
    | (refine wpList_store_row rfl 26 (.tmp 4) (.tmp 108) rfl w.heap.size #[.int .i64 0, .int .i64 0, .int .i64 0, .slice none 0 0, .slice none 0 0, .slice none 0 0] rfl rfl 26 _ R1.out.res infoLat rfl (by simp [Value.oneCell']) ?_))
  refine bodyPost_ret (results_cell_row rfl _ _ w.heap.size 26 #[.int .i64 0, .int .i64 0, .int .i64 0, .slice none 0 0, .slice none 0 0, .slice none 0 0] (0, 0) _ rfl (setRow_heap _ _ _ _ _ _ R1.out.res) Try.underlying26 rfl infoLat) rfl ?_
  exact RS.fin (t := ⟨0, 0, 0, [], [], []⟩) R1.out ⟨⟨by simp only [Lat.k]; omega, by simp only [Lat.k]; omega⟩, ⟨by simp only [Lat.lo]; omega, by simp only [Lat.lo]; omega⟩, ⟨by simp only [Lat.hi]; omega, by simp only [Lat.hi]; omega⟩⟩ (fun y hy => by simp [Lat.ns] at hy) (fun y hy => by simp [Lat.rs] at hy) (ns_nil _ _) (ps_nil _ _) (rus_nil _ _) _ rfl
theorem rq_1 (hdep : 1 ≤ dep ∧ dep ≤ 6) (h : Wr.RS w b g d s) (hk : (Wr.uR d s).1 = 1) :
    Calls Try.prog 24 #[.pointer (some ⟨b, 0, none⟩), .int .i64 dep] w (RdP b g d (rdF d (n + 1) s).1 (rdF d (n + 1) s).2 w) := by
  have HBG : Hid (b < w.heap.size ∧ g < w.heap.size) := hid_of ⟨(rs_lt h).1, (rs_lt h).2.1⟩
  have hsm := (rs_lt h).2.2
  have hdd : decide ((dep : Int) > 6) = false := by simp; omega
  have hdw : IntKind.i64.wrap ((dep : Int) + 1) = (dep : Int) + 1 := IntWalk.i64_in _ (by omega)
  obtain ⟨s1, hs1⟩ : ∃ s1, s1 = (Wr.uR d s).2 := ⟨_, rfl⟩
  have EE : Hid (rdF d (n + 1) s = (⟨1, 0, 0, [], [], []⟩, s1)) := hid_of (by
    rw [rdF, hk, if_neg (by omega : ¬(10 < 1)), if_neg (by decide : ¬(1 = 2 ∨ 1 = 3)), if_neg (by decide : ¬(1 = 4 ∨ 1 = 8)), if_neg (by decide : ¬(1 = 5)), if_neg (by decide : ¬(1 = 6)), if_neg (by decide : ¬(1 = 7)), if_neg (by decide : ¬(1 = 10)), ← hs1]
    try rfl)
  rw [EE.out]
  show Calls Try.prog 24 #[.pointer (some ⟨b, 0, none⟩), .int .i64 dep] w (RdP b g d ⟨1, 0, 0, [], [], []⟩ (s1) w)
  have C0 : Hid (Calls Try.prog 50 #[.pointer (some ⟨b, 0, none⟩)] (w.alloc (.cells [.int .i64 0, .int .i64 0, .int .i64 0, .slice none 0 0, .slice none 0 0, .slice none 0 0].toArray 26 (0, 0))) (fun e w' => (e = .returned (.int .u64 1) ∧ w'.heap.size = (w.alloc (.cells [.int .i64 0, .int .i64 0, .int .i64 0, .slice none 0 0, .slice none 0 0, .slice none 0 0].toArray 26 (0, 0))).heap.size) ∧ RG b g d (w.alloc (.cells [.int .i64 0, .int .i64 0, .int .i64 0, .slice none 0 0, .slice none 0 0, .slice none 0 0].toArray 26 (0, 0))) w' s1)) := hid_of (by
    have h1 := uint_rg (RG.start (rs_same h ((bel_alloc w (.cells [.int .i64 0, .int .i64 0, .int .i64 0, .slice none 0 0, .slice none 0 0, .slice none 0 0].toArray 26 (0, 0))).block b HBG.out.1) ((bel_alloc w (.cells [.int .i64 0, .int .i64 0, .int .i64 0, .slice none 0 0, .slice none 0 0, .slice none 0 0].toArray 26 (0, 0))).block g HBG.out.2)))
    rw [hk, ← hs1] at h1
    exact h1)
  have S1 : Hid (∀ w1, RG b g d (w.alloc (.cells [.int .i64 0, .int .i64 0, .int .i64 0, .slice none 0 0, .slice none 0 0, .slice none 0 0].toArray 26 (0, 0))) w1 s1 → RS b g d w w1.heap.size (.int .i64 1) (.int .i64 0) (.int .i64 0) (.slice none 0 0) (.slice none 0 0) (.slice none 0 0) s1 (w1.alloc (.cells [.int .i64 1, .int .i64 0, .int .i64 0, .slice none 0 0, .slice none 0 0, .slice none 0 0].toArray 26 (0, 0)))) := hid_of (fun w1 k => RS.start k HBG.out _)
  clear hdep h hk hs1 hsm
  go_enter Try.func24, Try.ntmps24
  go_wp2_with (first
    | (go_at_call 50; ((with_reducible refine (C0.out).mono ?_); (rintro e w1 ⟨⟨rfl, q0⟩, q1⟩)); have R1 := hid_of (S1.out w1 q1); clear q0 q1)
    | (refine wpList_store_row rfl 26 (.tmp 4) (.tmp 108) rfl w.heap.size #[.int .i64 1, .int .i64 0, .int .i64 0, .slice none 0 0, .slice none 0 0, .slice none 0 0] rfl rfl 26 _ R1.out.res infoLat rfl (by simp [Value.oneCell']) ?_))
  refine bodyPost_ret (results_cell_row rfl _ _ w.heap.size 26 #[.int .i64 1, .int .i64 0, .int .i64 0, .slice none 0 0, .slice none 0 0, .slice none 0 0] (0, 0) _ rfl (setRow_heap _ _ _ _ _ _ R1.out.res) Try.underlying26 rfl infoLat) rfl ?_
  exact RS.fin (t := ⟨1, 0, 0, [], [], []⟩) R1.out ⟨⟨by simp only [Lat.k]; omega, by simp only [Lat.k]; omega⟩, ⟨by simp only [Lat.lo]; omega, by simp only [Lat.lo]; omega⟩, ⟨by simp only [Lat.hi]; omega, by simp only [Lat.hi]; omega⟩⟩ (fun y hy => by simp [Lat.ns] at hy) (fun y hy => by simp [Lat.rs] at hy) (ns_nil _ _) (ps_nil _ _) (rus_nil _ _) _ rfl
theorem rq_9 (hdep : 1 ≤ dep ∧ dep ≤ 6) (h : Wr.RS w b g d s) (hk : (Wr.uR d s).1 = 9) :
    Calls Try.prog 24 #[.pointer (some ⟨b, 0, none⟩), .int .i64 dep] w (RdP b g d (rdF d (n + 1) s).1 (rdF d (n + 1) s).2 w) := by
  have HBG : Hid (b < w.heap.size ∧ g < w.heap.size) := hid_of ⟨(rs_lt h).1, (rs_lt h).2.1⟩
  have hsm := (rs_lt h).2.2
  have hdd : decide ((dep : Int) > 6) = false := by simp; omega
  have hdw : IntKind.i64.wrap ((dep : Int) + 1) = (dep : Int) + 1 := IntWalk.i64_in _ (by omega)
  obtain ⟨s1, hs1⟩ : ∃ s1, s1 = (Wr.uR d s).2 := ⟨_, rfl⟩
  have EE : Hid (rdF d (n + 1) s = (⟨9, 0, 0, [], [], []⟩, s1)) := hid_of (by
    rw [rdF, hk, if_neg (by omega : ¬(10 < 9)), if_neg (by decide : ¬(9 = 2 ∨ 9 = 3)), if_neg (by decide : ¬(9 = 4 ∨ 9 = 8)), if_neg (by decide : ¬(9 = 5)), if_neg (by decide : ¬(9 = 6)), if_neg (by decide : ¬(9 = 7)), if_neg (by decide : ¬(9 = 10)), ← hs1]
    try rfl)
  rw [EE.out]
  show Calls Try.prog 24 #[.pointer (some ⟨b, 0, none⟩), .int .i64 dep] w (RdP b g d ⟨9, 0, 0, [], [], []⟩ (s1) w)
  have C0 : Hid (Calls Try.prog 50 #[.pointer (some ⟨b, 0, none⟩)] (w.alloc (.cells [.int .i64 0, .int .i64 0, .int .i64 0, .slice none 0 0, .slice none 0 0, .slice none 0 0].toArray 26 (0, 0))) (fun e w' => (e = .returned (.int .u64 9) ∧ w'.heap.size = (w.alloc (.cells [.int .i64 0, .int .i64 0, .int .i64 0, .slice none 0 0, .slice none 0 0, .slice none 0 0].toArray 26 (0, 0))).heap.size) ∧ RG b g d (w.alloc (.cells [.int .i64 0, .int .i64 0, .int .i64 0, .slice none 0 0, .slice none 0 0, .slice none 0 0].toArray 26 (0, 0))) w' s1)) := hid_of (by
    have h1 := uint_rg (RG.start (rs_same h ((bel_alloc w (.cells [.int .i64 0, .int .i64 0, .int .i64 0, .slice none 0 0, .slice none 0 0, .slice none 0 0].toArray 26 (0, 0))).block b HBG.out.1) ((bel_alloc w (.cells [.int .i64 0, .int .i64 0, .int .i64 0, .slice none 0 0, .slice none 0 0, .slice none 0 0].toArray 26 (0, 0))).block g HBG.out.2)))
    rw [hk, ← hs1] at h1
    exact h1)
  have S1 : Hid (∀ w1, RG b g d (w.alloc (.cells [.int .i64 0, .int .i64 0, .int .i64 0, .slice none 0 0, .slice none 0 0, .slice none 0 0].toArray 26 (0, 0))) w1 s1 → RS b g d w w1.heap.size (.int .i64 9) (.int .i64 0) (.int .i64 0) (.slice none 0 0) (.slice none 0 0) (.slice none 0 0) s1 (w1.alloc (.cells [.int .i64 9, .int .i64 0, .int .i64 0, .slice none 0 0, .slice none 0 0, .slice none 0 0].toArray 26 (0, 0)))) := hid_of (fun w1 k => RS.start k HBG.out _)
  clear hdep h hk hs1 hsm
  go_enter Try.func24, Try.ntmps24
  go_wp2_with (first
    | (go_at_call 50; ((with_reducible refine (C0.out).mono ?_); (rintro e w1 ⟨⟨rfl, q0⟩, q1⟩)); have R1 := hid_of (S1.out w1 q1); clear q0 q1)
    | (refine wpList_store_row rfl 26 (.tmp 4) (.tmp 108) rfl w.heap.size #[.int .i64 9, .int .i64 0, .int .i64 0, .slice none 0 0, .slice none 0 0, .slice none 0 0] rfl rfl 26 _ R1.out.res infoLat rfl (by simp [Value.oneCell']) ?_))
  refine bodyPost_ret (results_cell_row rfl _ _ w.heap.size 26 #[.int .i64 9, .int .i64 0, .int .i64 0, .slice none 0 0, .slice none 0 0, .slice none 0 0] (0, 0) _ rfl (setRow_heap _ _ _ _ _ _ R1.out.res) Try.underlying26 rfl infoLat) rfl ?_
  exact RS.fin (t := ⟨9, 0, 0, [], [], []⟩) R1.out ⟨⟨by simp only [Lat.k]; omega, by simp only [Lat.k]; omega⟩, ⟨by simp only [Lat.lo]; omega, by simp only [Lat.lo]; omega⟩, ⟨by simp only [Lat.hi]; omega, by simp only [Lat.hi]; omega⟩⟩ (fun y hy => by simp [Lat.ns] at hy) (fun y hy => by simp [Lat.rs] at hy) (ns_nil _ _) (ps_nil _ _) (rus_nil _ _) _ rfl
theorem rq_2 (hdep : 1 ≤ dep ∧ dep ≤ 6) (h : Wr.RS w b g d s) (hk : (Wr.uR d s).1 = 2) :
    Calls Try.prog 24 #[.pointer (some ⟨b, 0, none⟩), .int .i64 dep] w (RdP b g d (rdF d (n + 1) s).1 (rdF d (n + 1) s).2 w) := by
  have HBG : Hid (b < w.heap.size ∧ g < w.heap.size) := hid_of ⟨(rs_lt h).1, (rs_lt h).2.1⟩
  have hsm := (rs_lt h).2.2
  have hdd : decide ((dep : Int) > 6) = false := by simp; omega
  have hdw : IntKind.i64.wrap ((dep : Int) + 1) = (dep : Int) + 1 := IntWalk.i64_in _ (by omega)
  obtain ⟨s1, hs1⟩ : ∃ s1, s1 = (Wr.uR d s).2 := ⟨_, rfl⟩
  obtain ⟨lo, hlo⟩ : ∃ lo, lo = (Wr.iR d s1).1 := ⟨_, rfl⟩
  obtain ⟨s2, hs2⟩ : ∃ s2, s2 = (Wr.iR d s1).2 := ⟨_, rfl⟩
  obtain ⟨hi, hhi⟩ : ∃ hi, hi = (Wr.iR d s2).1 := ⟨_, rfl⟩
  obtain ⟨s3, hs3⟩ : ∃ s3, s3 = (Wr.iR d s2).2 := ⟨_, rfl⟩
  have EE : Hid (rdF d (n + 1) s = (⟨2, lo, hi, [], [], []⟩, s3)) := hid_of (by
    rw [rdF, hk, if_neg (by omega : ¬(10 < 2)), if_pos (by decide : 2 = 2 ∨ 2 = 3), ← hs1, ← hs2, ← hlo, ← hhi, ← hs3]
    try rfl)
  rw [EE.out]
  show Calls Try.prog 24 #[.pointer (some ⟨b, 0, none⟩), .int .i64 dep] w (RdP b g d ⟨2, lo, hi, [], [], []⟩ (s3) w)
  have C0 : Hid (Calls Try.prog 50 #[.pointer (some ⟨b, 0, none⟩)] (w.alloc (.cells [.int .i64 0, .int .i64 0, .int .i64 0, .slice none 0 0, .slice none 0 0, .slice none 0 0].toArray 26 (0, 0))) (fun e w' => (e = .returned (.int .u64 2) ∧ w'.heap.size = (w.alloc (.cells [.int .i64 0, .int .i64 0, .int .i64 0, .slice none 0 0, .slice none 0 0, .slice none 0 0].toArray 26 (0, 0))).heap.size) ∧ RG b g d (w.alloc (.cells [.int .i64 0, .int .i64 0, .int .i64 0, .slice none 0 0, .slice none 0 0, .slice none 0 0].toArray 26 (0, 0))) w' s1)) := hid_of (by
    have h1 := uint_rg (RG.start (rs_same h ((bel_alloc w (.cells [.int .i64 0, .int .i64 0, .int .i64 0, .slice none 0 0, .slice none 0 0, .slice none 0 0].toArray 26 (0, 0))).block b HBG.out.1) ((bel_alloc w (.cells [.int .i64 0, .int .i64 0, .int .i64 0, .slice none 0 0, .slice none 0 0, .slice none 0 0].toArray 26 (0, 0))).block g HBG.out.2)))
    rw [hk, ← hs1] at h1
    exact h1)
  have S1 : Hid (∀ w1, RG b g d (w.alloc (.cells [.int .i64 0, .int .i64 0, .int .i64 0, .slice none 0 0, .slice none 0 0, .slice none 0 0].toArray 26 (0, 0))) w1 s1 → RS b g d w w1.heap.size (.int .i64 2) (.int .i64 0) (.int .i64 0) (.slice none 0 0) (.slice none 0 0) (.slice none 0 0) s1 (w1.alloc (.cells [.int .i64 2, .int .i64 0, .int .i64 0, .slice none 0 0, .slice none 0 0, .slice none 0 0].toArray 26 (0, 0)))) := hid_of (fun w1 k => RS.start k HBG.out _)
  have CI1 : Hid (∀ wa w1, RG b g d wa w1 s1 → Calls Try.prog 52 #[.pointer (some ⟨b, 0, none⟩)] w1 fun e w' => (e = .returned (.int .i64 lo) ∧ w'.heap.size = w1.heap.size) ∧ RG b g d w1 w' s2) := hid_of (fun wa w1 k => by rw [hlo, hs2]; exact int_rg k)
  have CI2 : Hid (∀ wa w1, RG b g d wa w1 s2 → Calls Try.prog 52 #[.pointer (some ⟨b, 0, none⟩)] w1 fun e w' => (e = .returned (.int .i64 hi) ∧ w'.heap.size = w1.heap.size) ∧ RG b g d w1 w' s3) := hid_of (fun wa w1 k => by rw [hhi, hs3]; exact int_rg k)
  have HR1 : Hid (∀ W, Wr.RS W b g d s1 → R64 lo) := hid_of (fun W k => by rw [hlo]; exact iR_r64 k)
  have HR2 : Hid (∀ W, Wr.RS W b g d s2 → R64 hi) := hid_of (fun W k => by rw [hhi]; exact iR_r64 k)
  clear hdep h hk hs1 hs2 hs3 hlo hhi hsm
  go_enter Try.func24, Try.ntmps24
  go_wp2_with (first
    | (go_at_call 50; ((with_reducible refine (C0.out).mono ?_); (rintro e w1 ⟨⟨rfl, q0⟩, q1⟩)); have R1 := hid_of (S1.out w1 q1); clear q0 q1)
    | (go_at_call 52; ((with_reducible refine (CI1.out _ _ R1.out.rg).mono ?_); (rintro e w2 ⟨⟨rfl, q0⟩, q1⟩)); have R2 := hid_of (R1.out.call q1); clear q0 q1; have R3 := hid_of (R2.out.set 1 (.int .i64 lo) rfl); obtain ⟨z0, z1, z2, z3, z4, z5⟩ := R2.out.cells; have f1 := R2.out.free 1)
    | (go_at_call 52; ((with_reducible refine (CI2.out _ _ R3.out.rg).mono ?_); (rintro e w3 ⟨⟨rfl, q0⟩, q1⟩)); have R4 := hid_of (R3.out.call q1); clear q0 q1; have R5 := hid_of (R4.out.set 2 (.int .i64 hi) rfl); obtain ⟨v0, v1, v2, v3, v4, v5⟩ := R4.out.cells; have f2 := R4.out.free 2; obtain ⟨y0, y1, y2, y3, y4, y5⟩ := R5.out.cells)
    | (refine wpList_store_row rfl 26 (.tmp 4) (.tmp 108) rfl w.heap.size #[.int .i64 2, .int .i64 lo, .int .i64 hi, .slice none 0 0, .slice none 0 0, .slice none 0 0] rfl rfl 26 _ R5.out.res infoLat rfl (by simp [Value.oneCell']) ?_))
  refine bodyPost_ret (results_cell_row rfl _ _ w.heap.size 26 #[.int .i64 2, .int .i64 lo, .int .i64 hi, .slice none 0 0, .slice none 0 0, .slice none 0 0] (0, 0) _ rfl (setRow_heap _ _ _ _ _ _ R5.out.res) Try.underlying26 rfl infoLat) rfl ?_
  exact RS.fin (t := ⟨2, lo, hi, [], [], []⟩) R5.out ⟨⟨by simp only [Lat.k]; omega, by simp only [Lat.k]; omega⟩, HR1.out _ R1.out.rg.st, HR2.out _ R3.out.rg.st⟩ (fun y hy => by simp [Lat.ns] at hy) (fun y hy => by simp [Lat.rs] at hy) (ns_nil _ _) (ps_nil _ _) (rus_nil _ _) _ rfl
theorem rq_3 (hdep : 1 ≤ dep ∧ dep ≤ 6) (h : Wr.RS w b g d s) (hk : (Wr.uR d s).1 = 3) :
    Calls Try.prog 24 #[.pointer (some ⟨b, 0, none⟩), .int .i64 dep] w (RdP b g d (rdF d (n + 1) s).1 (rdF d (n + 1) s).2 w) := by
  have HBG : Hid (b < w.heap.size ∧ g < w.heap.size) := hid_of ⟨(rs_lt h).1, (rs_lt h).2.1⟩
  have hsm := (rs_lt h).2.2
  have hdd : decide ((dep : Int) > 6) = false := by simp; omega
  have hdw : IntKind.i64.wrap ((dep : Int) + 1) = (dep : Int) + 1 := IntWalk.i64_in _ (by omega)
  obtain ⟨s1, hs1⟩ : ∃ s1, s1 = (Wr.uR d s).2 := ⟨_, rfl⟩
  obtain ⟨lo, hlo⟩ : ∃ lo, lo = (Wr.iR d s1).1 := ⟨_, rfl⟩
  obtain ⟨s2, hs2⟩ : ∃ s2, s2 = (Wr.iR d s1).2 := ⟨_, rfl⟩
  obtain ⟨hi, hhi⟩ : ∃ hi, hi = (Wr.iR d s2).1 := ⟨_, rfl⟩
  obtain ⟨s3, hs3⟩ : ∃ s3, s3 = (Wr.iR d s2).2 := ⟨_, rfl⟩
  have EE : Hid (rdF d (n + 1) s = (⟨3, lo, hi, [], [], []⟩, s3)) := hid_of (by
    rw [rdF, hk, if_neg (by omega : ¬(10 < 3)), if_pos (by decide : 3 = 2 ∨ 3 = 3), ← hs1, ← hs2, ← hlo, ← hhi, ← hs3]
    try rfl)
  rw [EE.out]
  show Calls Try.prog 24 #[.pointer (some ⟨b, 0, none⟩), .int .i64 dep] w (RdP b g d ⟨3, lo, hi, [], [], []⟩ (s3) w)
  have C0 : Hid (Calls Try.prog 50 #[.pointer (some ⟨b, 0, none⟩)] (w.alloc (.cells [.int .i64 0, .int .i64 0, .int .i64 0, .slice none 0 0, .slice none 0 0, .slice none 0 0].toArray 26 (0, 0))) (fun e w' => (e = .returned (.int .u64 3) ∧ w'.heap.size = (w.alloc (.cells [.int .i64 0, .int .i64 0, .int .i64 0, .slice none 0 0, .slice none 0 0, .slice none 0 0].toArray 26 (0, 0))).heap.size) ∧ RG b g d (w.alloc (.cells [.int .i64 0, .int .i64 0, .int .i64 0, .slice none 0 0, .slice none 0 0, .slice none 0 0].toArray 26 (0, 0))) w' s1)) := hid_of (by
    have h1 := uint_rg (RG.start (rs_same h ((bel_alloc w (.cells [.int .i64 0, .int .i64 0, .int .i64 0, .slice none 0 0, .slice none 0 0, .slice none 0 0].toArray 26 (0, 0))).block b HBG.out.1) ((bel_alloc w (.cells [.int .i64 0, .int .i64 0, .int .i64 0, .slice none 0 0, .slice none 0 0, .slice none 0 0].toArray 26 (0, 0))).block g HBG.out.2)))
    rw [hk, ← hs1] at h1
    exact h1)
  have S1 : Hid (∀ w1, RG b g d (w.alloc (.cells [.int .i64 0, .int .i64 0, .int .i64 0, .slice none 0 0, .slice none 0 0, .slice none 0 0].toArray 26 (0, 0))) w1 s1 → RS b g d w w1.heap.size (.int .i64 3) (.int .i64 0) (.int .i64 0) (.slice none 0 0) (.slice none 0 0) (.slice none 0 0) s1 (w1.alloc (.cells [.int .i64 3, .int .i64 0, .int .i64 0, .slice none 0 0, .slice none 0 0, .slice none 0 0].toArray 26 (0, 0)))) := hid_of (fun w1 k => RS.start k HBG.out _)
  have CI1 : Hid (∀ wa w1, RG b g d wa w1 s1 → Calls Try.prog 52 #[.pointer (some ⟨b, 0, none⟩)] w1 fun e w' => (e = .returned (.int .i64 lo) ∧ w'.heap.size = w1.heap.size) ∧ RG b g d w1 w' s2) := hid_of (fun wa w1 k => by rw [hlo, hs2]; exact int_rg k)
  have CI2 : Hid (∀ wa w1, RG b g d wa w1 s2 → Calls Try.prog 52 #[.pointer (some ⟨b, 0, none⟩)] w1 fun e w' => (e = .returned (.int .i64 hi) ∧ w'.heap.size = w1.heap.size) ∧ RG b g d w1 w' s3) := hid_of (fun wa w1 k => by rw [hhi, hs3]; exact int_rg k)
  have HR1 : Hid (∀ W, Wr.RS W b g d s1 → R64 lo) := hid_of (fun W k => by rw [hlo]; exact iR_r64 k)
  have HR2 : Hid (∀ W, Wr.RS W b g d s2 → R64 hi) := hid_of (fun W k => by rw [hhi]; exact iR_r64 k)
  clear hdep h hk hs1 hs2 hs3 hlo hhi hsm
  go_enter Try.func24, Try.ntmps24
  go_wp2_with (first
    | (go_at_call 50; ((with_reducible refine (C0.out).mono ?_); (rintro e w1 ⟨⟨rfl, q0⟩, q1⟩)); have R1 := hid_of (S1.out w1 q1); clear q0 q1)
    | (go_at_call 52; ((with_reducible refine (CI1.out _ _ R1.out.rg).mono ?_); (rintro e w2 ⟨⟨rfl, q0⟩, q1⟩)); have R2 := hid_of (R1.out.call q1); clear q0 q1; have R3 := hid_of (R2.out.set 1 (.int .i64 lo) rfl); obtain ⟨z0, z1, z2, z3, z4, z5⟩ := R2.out.cells; have f1 := R2.out.free 1)
    | (go_at_call 52; ((with_reducible refine (CI2.out _ _ R3.out.rg).mono ?_); (rintro e w3 ⟨⟨rfl, q0⟩, q1⟩)); have R4 := hid_of (R3.out.call q1); clear q0 q1; have R5 := hid_of (R4.out.set 2 (.int .i64 hi) rfl); obtain ⟨v0, v1, v2, v3, v4, v5⟩ := R4.out.cells; have f2 := R4.out.free 2; obtain ⟨y0, y1, y2, y3, y4, y5⟩ := R5.out.cells)
    | (refine wpList_store_row rfl 26 (.tmp 4) (.tmp 108) rfl w.heap.size #[.int .i64 3, .int .i64 lo, .int .i64 hi, .slice none 0 0, .slice none 0 0, .slice none 0 0] rfl rfl 26 _ R5.out.res infoLat rfl (by simp [Value.oneCell']) ?_))
  refine bodyPost_ret (results_cell_row rfl _ _ w.heap.size 26 #[.int .i64 3, .int .i64 lo, .int .i64 hi, .slice none 0 0, .slice none 0 0, .slice none 0 0] (0, 0) _ rfl (setRow_heap _ _ _ _ _ _ R5.out.res) Try.underlying26 rfl infoLat) rfl ?_
  exact RS.fin (t := ⟨3, lo, hi, [], [], []⟩) R5.out ⟨⟨by simp only [Lat.k]; omega, by simp only [Lat.k]; omega⟩, HR1.out _ R1.out.rg.st, HR2.out _ R3.out.rg.st⟩ (fun y hy => by simp [Lat.ns] at hy) (fun y hy => by simp [Lat.rs] at hy) (ns_nil _ _) (ps_nil _ _) (rus_nil _ _) _ rfl
theorem rq_4 (hdep : 1 ≤ dep ∧ dep ≤ 6) (h : Wr.RS w b g d s) (hk : (Wr.uR d s).1 = 4) :
    Calls Try.prog 24 #[.pointer (some ⟨b, 0, none⟩), .int .i64 dep] w (RdP b g d (rdF d (n + 1) s).1 (rdF d (n + 1) s).2 w) := by
  have HBG : Hid (b < w.heap.size ∧ g < w.heap.size) := hid_of ⟨(rs_lt h).1, (rs_lt h).2.1⟩
  have hsm := (rs_lt h).2.2
  have hdd : decide ((dep : Int) > 6) = false := by simp; omega
  have hdw : IntKind.i64.wrap ((dep : Int) + 1) = (dep : Int) + 1 := IntWalk.i64_in _ (by omega)
  obtain ⟨s1, hs1⟩ : ∃ s1, s1 = (Wr.uR d s).2 := ⟨_, rfl⟩
  obtain ⟨ns, hns⟩ : ∃ ns, ns = (nF d s1).1 := ⟨_, rfl⟩
  obtain ⟨s2, hs2⟩ : ∃ s2, s2 = (nF d s1).2 := ⟨_, rfl⟩
  have HON : Hid (Ok ns) := hid_of (fun y hy => by have := (nF_small d s1).1 y (by rw [← hns]; exact hy); omega)
  have EE : Hid (rdF d (n + 1) s = (⟨4, 0, 0, ns, [], []⟩, s2)) := hid_of (by
    rw [rdF, hk, if_neg (by omega : ¬(10 < 4)), if_neg (by decide : ¬(4 = 2 ∨ 4 = 3)), if_pos (by decide : 4 = 4 ∨ 4 = 8), ← hs1, ← hns, ← hs2]
    try rfl)
  rw [EE.out]
  show Calls Try.prog 24 #[.pointer (some ⟨b, 0, none⟩), .int .i64 dep] w (RdP b g d ⟨4, 0, 0, ns, [], []⟩ (s2) w)
  have C0 : Hid (Calls Try.prog 50 #[.pointer (some ⟨b, 0, none⟩)] (w.alloc (.cells [.int .i64 0, .int .i64 0, .int .i64 0, .slice none 0 0, .slice none 0 0, .slice none 0 0].toArray 26 (0, 0))) (fun e w' => (e = .returned (.int .u64 4) ∧ w'.heap.size = (w.alloc (.cells [.int .i64 0, .int .i64 0, .int .i64 0, .slice none 0 0, .slice none 0 0, .slice none 0 0].toArray 26 (0, 0))).heap.size) ∧ RG b g d (w.alloc (.cells [.int .i64 0, .int .i64 0, .int .i64 0, .slice none 0 0, .slice none 0 0, .slice none 0 0].toArray 26 (0, 0))) w' s1)) := hid_of (by
    have h1 := uint_rg (RG.start (rs_same h ((bel_alloc w (.cells [.int .i64 0, .int .i64 0, .int .i64 0, .slice none 0 0, .slice none 0 0, .slice none 0 0].toArray 26 (0, 0))).block b HBG.out.1) ((bel_alloc w (.cells [.int .i64 0, .int .i64 0, .int .i64 0, .slice none 0 0, .slice none 0 0, .slice none 0 0].toArray 26 (0, 0))).block g HBG.out.2)))
    rw [hk, ← hs1] at h1
    exact h1)
  have S1 : Hid (∀ w1, RG b g d (w.alloc (.cells [.int .i64 0, .int .i64 0, .int .i64 0, .slice none 0 0, .slice none 0 0, .slice none 0 0].toArray 26 (0, 0))) w1 s1 → RS b g d w w1.heap.size (.int .i64 4) (.int .i64 0) (.int .i64 0) (.slice none 0 0) (.slice none 0 0) (.slice none 0 0) s1 (w1.alloc (.cells [.int .i64 4, .int .i64 0, .int .i64 0, .slice none 0 0, .slice none 0 0, .slice none 0 0].toArray 26 (0, 0)))) := hid_of (fun w1 k => RS.start k HBG.out _)
  have CN : Hid (∀ wa w2, RG b g d wa w2 s1 → Calls Try.prog 53 #[.pointer (some ⟨b, 0, none⟩)] w2 (NaP b g d ns s2 w2)) := hid_of (fun wa w2 k => by rw [hns, hs2]; exact rn_any b g d s1 w2 k.st)
  clear hdep h hk hs1 hns hs2 hsm
  go_enter Try.func24, Try.ntmps24
  go_wp2_with (first
    | (go_at_call 50; ((with_reducible refine (C0.out).mono ?_); (rintro e w1 ⟨⟨rfl, q0⟩, q1⟩)); have R1 := hid_of (S1.out w1 q1); clear q0 q1)
    | (go_at_call 53; ((with_reducible refine (CN.out _ _ R1.out.rg).mono ?_); (rintro e w2 ⟨xo, xc, rfl, q1, q2, q3⟩)); have R2 := hid_of (R1.out.call q3); have N2 := hid_of (ns_mk (T := Bh w1.heap.size w2) q1 q2 (fun k hk => ⟨Nat.lt_of_lt_of_le R1.out.hp.2 hk.1, hk.2⟩)); clear q1 q2 q3; have R3 := hid_of (R2.out.set 3 (.slice xo ns.length xc) rfl); have N3 := hid_of (N2.out.setBox 3 (.slice xo ns.length xc)); obtain ⟨z0, z1, z2, z3, z4, z5⟩ := R2.out.cells; have f3 := R2.out.free 3; obtain ⟨y0, y1, y2, y3, y4, y5⟩ := R3.out.cells)
    | (refine wpList_store_row rfl 26 (.tmp 4) (.tmp 108) rfl w.heap.size #[.int .i64 4, .int .i64 0, .int .i64 0, .slice xo ns.length xc, .slice none 0 0, .slice none 0 0] rfl rfl 26 _ R3.out.res infoLat rfl (by simp [Value.oneCell']) ?_))
  refine bodyPost_ret (results_cell_row rfl _ _ w.heap.size 26 #[.int .i64 4, .int .i64 0, .int .i64 0, .slice xo ns.length xc, .slice none 0 0, .slice none 0 0] (0, 0) _ rfl (setRow_heap _ _ _ _ _ _ R3.out.res) Try.underlying26 rfl infoLat) rfl ?_
  exact RS.fin (t := ⟨4, 0, 0, ns, [], []⟩) R3.out ⟨⟨by simp only [Lat.k]; omega, by simp only [Lat.k]; omega⟩, ⟨by simp only [Lat.lo]; omega, by simp only [Lat.lo]; omega⟩, ⟨by simp only [Lat.hi]; omega, by simp only [Lat.hi]; omega⟩⟩ HON.out (fun y hy => by simp [Lat.rs] at hy) (N3.out) (ps_nil _ _) (rus_nil _ _) _ rfl
theorem rq_8 (hdep : 1 ≤ dep ∧ dep ≤ 6) (h : Wr.RS w b g d s) (hk : (Wr.uR d s).1 = 8) :
    Calls Try.prog 24 #[.pointer (some ⟨b, 0, none⟩), .int .i64 dep] w (RdP b g d (rdF d (n + 1) s).1 (rdF d (n + 1) s).2 w) := by
  have HBG : Hid (b < w.heap.size ∧ g < w.heap.size) := hid_of ⟨(rs_lt h).1, (rs_lt h).2.1⟩
  have hsm := (rs_lt h).2.2
  have hdd : decide ((dep : Int) > 6) = false := by simp; omega
  have hdw : IntKind.i64.wrap ((dep : Int) + 1) = (dep : Int) + 1 := IntWalk.i64_in _ (by omega)
  obtain ⟨s1, hs1⟩ : ∃ s1, s1 = (Wr.uR d s).2 := ⟨_, rfl⟩
  obtain ⟨ns, hns⟩ : ∃ ns, ns = (nF d s1).1 := ⟨_, rfl⟩
  obtain ⟨s2, hs2⟩ : ∃ s2, s2 = (nF d s1).2 := ⟨_, rfl⟩
  have HON : Hid (Ok ns) := hid_of (fun y hy => by have := (nF_small d s1).1 y (by rw [← hns]; exact hy); omega)
  have EE : Hid (rdF d (n + 1) s = (⟨8, 0, 0, ns, [], []⟩, s2)) := hid_of (by
    rw [rdF, hk, if_neg (by omega : ¬(10 < 8)), if_neg (by decide : ¬(8 = 2 ∨ 8 = 3)), if_pos (by decide : 8 = 4 ∨ 8 = 8), ← hs1, ← hns, ← hs2]
    try rfl)
  rw [EE.out]
  show Calls Try.prog 24 #[.pointer (some ⟨b, 0, none⟩), .int .i64 dep] w (RdP b g d ⟨8, 0, 0, ns, [], []⟩ (s2) w)
  have C0 : Hid (Calls Try.prog 50 #[.pointer (some ⟨b, 0, none⟩)] (w.alloc (.cells [.int .i64 0, .int .i64 0, .int .i64 0, .slice none 0 0, .slice none 0 0, .slice none 0 0].toArray 26 (0, 0))) (fun e w' => (e = .returned (.int .u64 8) ∧ w'.heap.size = (w.alloc (.cells [.int .i64 0, .int .i64 0, .int .i64 0, .slice none 0 0, .slice none 0 0, .slice none 0 0].toArray 26 (0, 0))).heap.size) ∧ RG b g d (w.alloc (.cells [.int .i64 0, .int .i64 0, .int .i64 0, .slice none 0 0, .slice none 0 0, .slice none 0 0].toArray 26 (0, 0))) w' s1)) := hid_of (by
    have h1 := uint_rg (RG.start (rs_same h ((bel_alloc w (.cells [.int .i64 0, .int .i64 0, .int .i64 0, .slice none 0 0, .slice none 0 0, .slice none 0 0].toArray 26 (0, 0))).block b HBG.out.1) ((bel_alloc w (.cells [.int .i64 0, .int .i64 0, .int .i64 0, .slice none 0 0, .slice none 0 0, .slice none 0 0].toArray 26 (0, 0))).block g HBG.out.2)))
    rw [hk, ← hs1] at h1
    exact h1)
  have S1 : Hid (∀ w1, RG b g d (w.alloc (.cells [.int .i64 0, .int .i64 0, .int .i64 0, .slice none 0 0, .slice none 0 0, .slice none 0 0].toArray 26 (0, 0))) w1 s1 → RS b g d w w1.heap.size (.int .i64 8) (.int .i64 0) (.int .i64 0) (.slice none 0 0) (.slice none 0 0) (.slice none 0 0) s1 (w1.alloc (.cells [.int .i64 8, .int .i64 0, .int .i64 0, .slice none 0 0, .slice none 0 0, .slice none 0 0].toArray 26 (0, 0)))) := hid_of (fun w1 k => RS.start k HBG.out _)
  have CN : Hid (∀ wa w2, RG b g d wa w2 s1 → Calls Try.prog 53 #[.pointer (some ⟨b, 0, none⟩)] w2 (NaP b g d ns s2 w2)) := hid_of (fun wa w2 k => by rw [hns, hs2]; exact rn_any b g d s1 w2 k.st)
  clear hdep h hk hs1 hns hs2 hsm
  go_enter Try.func24, Try.ntmps24
  go_wp2_with (first
    | (go_at_call 50; ((with_reducible refine (C0.out).mono ?_); (rintro e w1 ⟨⟨rfl, q0⟩, q1⟩)); have R1 := hid_of (S1.out w1 q1); clear q0 q1)
    | (go_at_call 53; ((with_reducible refine (CN.out _ _ R1.out.rg).mono ?_); (rintro e w2 ⟨xo, xc, rfl, q1, q2, q3⟩)); have R2 := hid_of (R1.out.call q3); have N2 := hid_of (ns_mk (T := Bh w1.heap.size w2) q1 q2 (fun k hk => ⟨Nat.lt_of_lt_of_le R1.out.hp.2 hk.1, hk.2⟩)); clear q1 q2 q3; have R3 := hid_of (R2.out.set 3 (.slice xo ns.length xc) rfl); have N3 := hid_of (N2.out.setBox 3 (.slice xo ns.length xc)); obtain ⟨z0, z1, z2, z3, z4, z5⟩ := R2.out.cells; have f3 := R2.out.free 3; obtain ⟨y0, y1, y2, y3, y4, y5⟩ := R3.out.cells)
    | (refine wpList_store_row rfl 26 (.tmp 4) (.tmp 108) rfl w.heap.size #[.int .i64 8, .int .i64 0, .int .i64 0, .slice xo ns.length xc, .slice none 0 0, .slice none 0 0] rfl rfl 26 _ R3.out.res infoLat rfl (by simp [Value.oneCell']) ?_))
  refine bodyPost_ret (results_cell_row rfl _ _ w.heap.size 26 #[.int .i64 8, .int .i64 0, .int .i64 0, .slice xo ns.length xc, .slice none 0 0, .slice none 0 0] (0, 0) _ rfl (setRow_heap _ _ _ _ _ _ R3.out.res) Try.underlying26 rfl infoLat) rfl ?_
  exact RS.fin (t := ⟨8, 0, 0, ns, [], []⟩) R3.out ⟨⟨by simp only [Lat.k]; omega, by simp only [Lat.k]; omega⟩, ⟨by simp only [Lat.lo]; omega, by simp only [Lat.lo]; omega⟩, ⟨by simp only [Lat.hi]; omega, by simp only [Lat.hi]; omega⟩⟩ HON.out (fun y hy => by simp [Lat.rs] at hy) (N3.out) (ps_nil _ _) (rus_nil _ _) _ rfl
theorem rq_5 (hdep : 1 ≤ dep ∧ dep ≤ 6) (h : Wr.RS w b g d s) (hk : (Wr.uR d s).1 = 5) (IH : RQ b g d n (dep + 1)) :
    Calls Try.prog 24 #[.pointer (some ⟨b, 0, none⟩), .int .i64 dep] w (RdP b g d (rdF d (n + 1) s).1 (rdF d (n + 1) s).2 w) := by
  have HBG : Hid (b < w.heap.size ∧ g < w.heap.size) := hid_of ⟨(rs_lt h).1, (rs_lt h).2.1⟩
  have hsm := (rs_lt h).2.2
  have hdd : decide ((dep : Int) > 6) = false := by simp; omega
  have hdw : IntKind.i64.wrap ((dep : Int) + 1) = (dep : Int) + 1 := IntWalk.i64_in _ (by omega)
  obtain ⟨s1, hs1⟩ : ∃ s1, s1 = (Wr.uR d s).2 := ⟨_, rfl⟩
  obtain ⟨ns, hns⟩ : ∃ ns, ns = (nF d s1).1 := ⟨_, rfl⟩
  obtain ⟨s2, hs2⟩ : ∃ s2, s2 = (nF d s1).2 := ⟨_, rfl⟩
  have HON : Hid (Ok ns) := hid_of (fun y hy => by have := (nF_small d s1).1 y (by rw [← hns]; exact hy); omega)
  obtain ⟨p, hp⟩ : ∃ p, p = (rdF d n s2).1 := ⟨_, rfl⟩
  obtain ⟨s3, hs3⟩ : ∃ s3, s3 = (rdF d n s2).2 := ⟨_, rfl⟩
  have EE : Hid (rdF d (n + 1) s = (⟨5, 0, 0, ns, [p], []⟩, s3)) := hid_of (by
    rw [rdF, hk, if_neg (by omega : ¬(10 < 5)), if_neg (by decide : ¬(5 = 2 ∨ 5 = 3)), if_neg (by decide : ¬(5 = 4 ∨ 5 = 8)), if_pos (by decide : 5 = 5), ← hs1, ← hs2, ← hns, ← hp, ← hs3]
    try rfl)
  rw [EE.out]
  show Calls Try.prog 24 #[.pointer (some ⟨b, 0, none⟩), .int .i64 dep] w (RdP b g d ⟨5, 0, 0, ns, [p], []⟩ (s3) w)
  have C0 : Hid (Calls Try.prog 50 #[.pointer (some ⟨b, 0, none⟩)] (w.alloc (.cells [.int .i64 0, .int .i64 0, .int .i64 0, .slice none 0 0, .slice none 0 0, .slice none 0 0].toArray 26 (0, 0))) (fun e w' => (e = .returned (.int .u64 5) ∧ w'.heap.size = (w.alloc (.cells [.int .i64 0, .int .i64 0, .int .i64 0, .slice none 0 0, .slice none 0 0, .slice none 0 0].toArray 26 (0, 0))).heap.size) ∧ RG b g d (w.alloc (.cells [.int .i64 0, .int .i64 0, .int .i64 0, .slice none 0 0, .slice none 0 0, .slice none 0 0].toArray 26 (0, 0))) w' s1)) := hid_of (by
    have h1 := uint_rg (RG.start (rs_same h ((bel_alloc w (.cells [.int .i64 0, .int .i64 0, .int .i64 0, .slice none 0 0, .slice none 0 0, .slice none 0 0].toArray 26 (0, 0))).block b HBG.out.1) ((bel_alloc w (.cells [.int .i64 0, .int .i64 0, .int .i64 0, .slice none 0 0, .slice none 0 0, .slice none 0 0].toArray 26 (0, 0))).block g HBG.out.2)))
    rw [hk, ← hs1] at h1
    exact h1)
  have S1 : Hid (∀ w1, RG b g d (w.alloc (.cells [.int .i64 0, .int .i64 0, .int .i64 0, .slice none 0 0, .slice none 0 0, .slice none 0 0].toArray 26 (0, 0))) w1 s1 → RS b g d w w1.heap.size (.int .i64 5) (.int .i64 0) (.int .i64 0) (.slice none 0 0) (.slice none 0 0) (.slice none 0 0) s1 (w1.alloc (.cells [.int .i64 5, .int .i64 0, .int .i64 0, .slice none 0 0, .slice none 0 0, .slice none 0 0].toArray 26 (0, 0)))) := hid_of (fun w1 k => RS.start k HBG.out _)
  have CN : Hid (∀ wa w2, RG b g d wa w2 s1 → Calls Try.prog 53 #[.pointer (some ⟨b, 0, none⟩)] w2 (NaP b g d ns s2 w2)) := hid_of (fun wa w2 k => by rw [hns, hs2]; exact rn_any b g d s1 w2 k.st)
  have CR : Hid (∀ wa w2, RG b g d wa w2 s2 → Calls Try.prog 24 #[.pointer (some ⟨b, 0, none⟩), .int .i64 ((dep : Int) + 1)] w2 (RdP b g d p s3 w2)) := hid_of (fun wa w2 k => by rw [hp, hs3]; exact IH s2 w2 k.st)
  clear hdep h hk hs1 hns hs2 hp hs3 IH hsm
  go_enter Try.func24, Try.ntmps24
  go_wp2_with (first
    | (go_at_call 50; ((with_reducible refine (C0.out).mono ?_); (rintro e w1 ⟨⟨rfl, q0⟩, q1⟩)); have R1 := hid_of (S1.out w1 q1); clear q0 q1)
    | (go_at_call 53; ((with_reducible refine (CN.out _ _ R1.out.rg).mono ?_); (rintro e w2 ⟨xo, xc, rfl, q1, q2, q3⟩)); have R2 := hid_of (R1.out.call q3); have N2 := hid_of (ns_mk (T := Bh w1.heap.size w2) q1 q2 (fun k hk => ⟨Nat.lt_of_lt_of_le R1.out.hp.2 hk.1, hk.2⟩)); clear q1 q2 q3; have R3 := hid_of (R2.out.set 3 (.slice xo ns.length xc) rfl); have N3 := hid_of (N2.out.setBox 3 (.slice xo ns.length xc)); obtain ⟨z0, z1, z2, z3, z4, z5⟩ := R2.out.cells; have f3 := R2.out.free 3)
    | (go_at_call 24; ((with_reducible refine (CR.out _ _ R3.out.rg).mono ?_); (rintro e w3 ⟨ao, ac, bo, bc, co, cc, rfl, q1, q2⟩)); have R4 := hid_of (R3.out.call q2); have N4 := hid_of (N3.out.call R3.out q2); have L4 := hid_of q1; have R5 := hid_of (R4.out.alloc (.cells #[.int .i64 p.k, .int .i64 p.lo, .int .i64 p.hi, .slice ao p.ns.length ac, .slice bo p.ps.length bc, .slice co p.rs.length cc] 26)); have P5 := hid_of (ps_one (T := Bh w1.heap.size (w3.alloc (.cells #[.int .i64 p.k, .int .i64 p.lo, .int .i64 p.hi, .slice ao p.ns.length ac, .slice bo p.ps.length bc, .slice co p.rs.length cc] 26))) L4.out (fun k hk => ⟨Nat.lt_of_lt_of_le R3.out.hp.2 hk.1, by have := hk.2; simp; omega⟩) ⟨R4.out.hp.2, by simp⟩ 26); have N5 := hid_of (N4.out.alloc (.cells #[.int .i64 p.k, .int .i64 p.lo, .int .i64 p.hi, .slice ao p.ns.length ac, .slice bo p.ps.length bc, .slice co p.rs.length cc] 26)); clear q1 q2; have R6 := hid_of (R5.out.set 4 (.slice (some ⟨w3.heap.size, 0, none⟩) 1 1) rfl); have N6 := hid_of (N5.out.setBox 4 (.slice (some ⟨w3.heap.size, 0, none⟩) 1 1)); have P6 := hid_of (PS.setBox P5.out 4 (.slice (some ⟨w3.heap.size, 0, none⟩) 1 1)); obtain ⟨u0, u1, u2, u3, u4, u5⟩ := R5.out.cells; have f4 := R5.out.free 4; obtain ⟨y0, y1, y2, y3, y4, y5⟩ := R6.out.cells)
    | (refine wpList_store_row rfl 26 (.tmp 4) (.tmp 108) rfl w.heap.size #[.int .i64 5, .int .i64 0, .int .i64 0, .slice xo ns.length xc, .slice (some ⟨w3.heap.size, 0, none⟩) 1 1, .slice none 0 0] rfl rfl 26 _ R6.out.res infoLat rfl (by simp [Value.oneCell']) ?_))
  refine bodyPost_ret (results_cell_row rfl _ _ w.heap.size 26 #[.int .i64 5, .int .i64 0, .int .i64 0, .slice xo ns.length xc, .slice (some ⟨w3.heap.size, 0, none⟩) 1 1, .slice none 0 0] (0, 0) _ rfl (setRow_heap _ _ _ _ _ _ R6.out.res) Try.underlying26 rfl infoLat) rfl ?_
  exact RS.fin (t := ⟨5, 0, 0, ns, [p], []⟩) R6.out ⟨⟨by simp only [Lat.k]; omega, by simp only [Lat.k]; omega⟩, ⟨by simp only [Lat.lo]; omega, by simp only [Lat.lo]; omega⟩, ⟨by simp only [Lat.hi]; omega, by simp only [Lat.hi]; omega⟩⟩ HON.out (fun y hy => by simp [Lat.rs] at hy) (N6.out) (P6.out) (rus_nil _ _) _ rfl
theorem rq_deep (hdep : dep = 7) (h : Wr.RS w b g d s) :
    Calls Try.prog 24 #[.pointer (some ⟨b, 0, none⟩), .int .i64 dep] w (RdP b g d ⟨0, 0, 0, [], [], []⟩ none w) := by
  have HBG : Hid (b < w.heap.size ∧ g < w.heap.size) := hid_of ⟨(rs_lt h).1, (rs_lt h).2.1⟩
  have HU := hid_of (Wr.uR_lt h)
  obtain ⟨kk, hkk⟩ : ∃ kk, kk = (Wr.uR d s).1 := ⟨_, rfl⟩
  have hdd : decide ((dep : Int) > 6) = true := by simp; omega
  have C0 : Hid (Calls Try.prog 50 #[.pointer (some ⟨b, 0, none⟩)] (w.alloc (.cells [.int .i64 0, .int .i64 0, .int .i64 0, .slice none 0 0, .slice none 0 0, .slice none 0 0].toArray 26 (0, 0))) (fun e w' => (e = .returned (.int .u64 kk) ∧ w'.heap.size = (w.alloc (.cells [.int .i64 0, .int .i64 0, .int .i64 0, .slice none 0 0, .slice none 0 0, .slice none 0 0].toArray 26 (0, 0))).heap.size) ∧ RG b g d (w.alloc (.cells [.int .i64 0, .int .i64 0, .int .i64 0, .slice none 0 0, .slice none 0 0, .slice none 0 0].toArray 26 (0, 0))) w' (Wr.uR d s).2)) := hid_of (by
    have h1 := uint_rg (RG.start (rs_same h ((bel_alloc w (.cells [.int .i64 0, .int .i64 0, .int .i64 0, .slice none 0 0, .slice none 0 0, .slice none 0 0].toArray 26 (0, 0))).block b HBG.out.1) ((bel_alloc w (.cells [.int .i64 0, .int .i64 0, .int .i64 0, .slice none 0 0, .slice none 0 0, .slice none 0 0].toArray 26 (0, 0))).block g HBG.out.2)))
    rw [← hkk] at h1
    exact h1)
  have CF : Hid (∀ w2, RG b g d (w.alloc (.cells [.int .i64 0, .int .i64 0, .int .i64 0, .slice none 0 0, .slice none 0 0, .slice none 0 0].toArray 26 (0, 0))) w2 (Wr.uR d s).2 → _) := hid_of (fun w2 k => fail_rg k)
  have HZ : Hid (∀ w2, RG b g d (w.alloc (.cells [.int .i64 0, .int .i64 0, .int .i64 0, .slice none 0 0, .slice none 0 0, .slice none 0 0].toArray 26 (0, 0))) w2 none → w2.heap[w.heap.size]? = some (.cells [.int .i64 0, .int .i64 0, .int .i64 0, .slice none 0 0, .slice none 0 0, .slice none 0 0].toArray 26 (0, 0))) := hid_of (fun w2 k => (k.blk (by simp) (by have := HBG.out; omega)).trans (heap_alloc_new w _))
  clear h hkk
  go_enter Try.func24, Try.ntmps24
  go_wp2_with (first
    | (go_at_call 50; ((with_reducible refine (C0.out).mono ?_); (rintro e w1 ⟨⟨rfl, q0⟩, q1⟩)); have R1 := hid_of q1; clear q0 q1)
    | (go_at_call 51; ((with_reducible refine (CF.out w1 R1.out).mono ?_); (rintro e w2 ⟨⟨rfl, q0⟩, q1⟩)); have R2 := hid_of (R1.out.trans q1); have Z2 := hid_of (HZ.out w2 R2.out); clear q0 q1)
    | (refine wpList_store_row rfl 26 (.tmp 4) (.tmp 19) rfl w.heap.size #[.int .i64 0, .int .i64 0, .int .i64 0, .slice none 0 0, .slice none 0 0, .slice none 0 0] rfl rfl 26 _ Z2.out infoLat rfl (by simp [Value.oneCell']) ?_))
  refine bodyPost_ret (results_cell_row rfl _ _ w.heap.size 26 #[.int .i64 0, .int .i64 0, .int .i64 0, .slice none 0 0, .slice none 0 0, .slice none 0 0] (0, 0) _ rfl (setRow_heap _ _ _ _ _ _ Z2.out) Try.underlying26 rfl infoLat) rfl ?_
  refine ⟨none, 0, none, 0, none, 0, rfl, .mk [] rfl rfl rfl ⟨by simp only [Lat.k]; omega, by simp only [Lat.k]; omega⟩ ⟨by simp only [Lat.lo]; omega, by simp only [Lat.lo]; omega⟩ ⟨by simp only [Lat.hi]; omega, by simp only [Lat.hi]; omega⟩ (ns_nil _ _) (fun y hy => by simp [Lat.ns] at hy) (rus_nil _ _) (fun y hy => by simp [Lat.rs] at hy) (sxrd_nil _) (in_nil _) rfl (fun i y u hy => by simp at hy), ?_⟩
  have k := R2.out.of_alloc
  exact ⟨rs_same k.st (setRow_other _ _ _ _ (by have := HBG.out; omega)) (setRow_other _ _ _ _ (by have := HBG.out; omega)), ⟨k.kept.os, k.kept.tape, k.kept.output, by simpa [World.setRow] using k.kept.size, fun x hx hn => (setRow_other _ _ _ _ (by omega)).trans (k.kept.block x hx hn)⟩⟩
theorem rq_kind (hdep : 1 ≤ dep ∧ dep ≤ 6) (h : Wr.RS w b g d s) (hk : 10 < (Wr.uR d s).1) :
    Calls Try.prog 24 #[.pointer (some ⟨b, 0, none⟩), .int .i64 dep] w (RdP b g d ⟨0, 0, 0, [], [], []⟩ none w) := by
  have HBG : Hid (b < w.heap.size ∧ g < w.heap.size) := hid_of ⟨(rs_lt h).1, (rs_lt h).2.1⟩
  have HU := hid_of (Wr.uR_lt h)
  obtain ⟨kk, hkk⟩ : ∃ kk, kk = (Wr.uR d s).1 := ⟨_, rfl⟩
  have hdd : decide ((dep : Int) > 6) = false := by simp; omega
  have hkd : decide (10 < kk) = true := by rw [hkk]; simp; omega
  have hkd2 : decide ((kk : Int) > 10) = true := by rw [hkk]; simp; omega
  have C0 : Hid (Calls Try.prog 50 #[.pointer (some ⟨b, 0, none⟩)] (w.alloc (.cells [.int .i64 0, .int .i64 0, .int .i64 0, .slice none 0 0, .slice none 0 0, .slice none 0 0].toArray 26 (0, 0))) (fun e w' => (e = .returned (.int .u64 kk) ∧ w'.heap.size = (w.alloc (.cells [.int .i64 0, .int .i64 0, .int .i64 0, .slice none 0 0, .slice none 0 0, .slice none 0 0].toArray 26 (0, 0))).heap.size) ∧ RG b g d (w.alloc (.cells [.int .i64 0, .int .i64 0, .int .i64 0, .slice none 0 0, .slice none 0 0, .slice none 0 0].toArray 26 (0, 0))) w' (Wr.uR d s).2)) := hid_of (by
    have h1 := uint_rg (RG.start (rs_same h ((bel_alloc w (.cells [.int .i64 0, .int .i64 0, .int .i64 0, .slice none 0 0, .slice none 0 0, .slice none 0 0].toArray 26 (0, 0))).block b HBG.out.1) ((bel_alloc w (.cells [.int .i64 0, .int .i64 0, .int .i64 0, .slice none 0 0, .slice none 0 0, .slice none 0 0].toArray 26 (0, 0))).block g HBG.out.2)))
    rw [← hkk] at h1
    exact h1)
  have CF : Hid (∀ w2, RG b g d (w.alloc (.cells [.int .i64 0, .int .i64 0, .int .i64 0, .slice none 0 0, .slice none 0 0, .slice none 0 0].toArray 26 (0, 0))) w2 (Wr.uR d s).2 → _) := hid_of (fun w2 k => fail_rg k)
  have HZ : Hid (∀ w2, RG b g d (w.alloc (.cells [.int .i64 0, .int .i64 0, .int .i64 0, .slice none 0 0, .slice none 0 0, .slice none 0 0].toArray 26 (0, 0))) w2 none → w2.heap[w.heap.size]? = some (.cells [.int .i64 0, .int .i64 0, .int .i64 0, .slice none 0 0, .slice none 0 0, .slice none 0 0].toArray 26 (0, 0))) := hid_of (fun w2 k => (k.blk (by simp) (by have := HBG.out; omega)).trans (heap_alloc_new w _))
  clear h hkk
  go_enter Try.func24, Try.ntmps24
  go_wp2_with (first
    | (go_at_call 50; ((with_reducible refine (C0.out).mono ?_); (rintro e w1 ⟨⟨rfl, q0⟩, q1⟩)); have R1 := hid_of q1; clear q0 q1)
    | (go_at_call 51; ((with_reducible refine (CF.out w1 R1.out).mono ?_); (rintro e w2 ⟨⟨rfl, q0⟩, q1⟩)); have R2 := hid_of (R1.out.trans q1); have Z2 := hid_of (HZ.out w2 R2.out); clear q0 q1)
    | (refine wpList_store_row rfl 26 (.tmp 4) (.tmp 19) rfl w.heap.size #[.int .i64 0, .int .i64 0, .int .i64 0, .slice none 0 0, .slice none 0 0, .slice none 0 0] rfl rfl 26 _ Z2.out infoLat rfl (by simp [Value.oneCell']) ?_))
  refine bodyPost_ret (results_cell_row rfl _ _ w.heap.size 26 #[.int .i64 0, .int .i64 0, .int .i64 0, .slice none 0 0, .slice none 0 0, .slice none 0 0] (0, 0) _ rfl (setRow_heap _ _ _ _ _ _ Z2.out) Try.underlying26 rfl infoLat) rfl ?_
  refine ⟨none, 0, none, 0, none, 0, rfl, .mk [] rfl rfl rfl ⟨by simp only [Lat.k]; omega, by simp only [Lat.k]; omega⟩ ⟨by simp only [Lat.lo]; omega, by simp only [Lat.lo]; omega⟩ ⟨by simp only [Lat.hi]; omega, by simp only [Lat.hi]; omega⟩ (ns_nil _ _) (fun y hy => by simp [Lat.ns] at hy) (rus_nil _ _) (fun y hy => by simp [Lat.rs] at hy) (sxrd_nil _) (in_nil _) rfl (fun i y u hy => by simp at hy), ?_⟩
  have k := R2.out.of_alloc
  exact ⟨rs_same k.st (setRow_other _ _ _ _ (by have := HBG.out; omega)) (setRow_other _ _ _ _ (by have := HBG.out; omega)), ⟨k.kept.os, k.kept.tape, k.kept.output, by simpa [World.setRow] using k.kept.size, fun x hx hn => (setRow_other _ _ _ _ (by omega)).trans (k.kept.block x hx hn)⟩⟩
theorem rq_10 (hdep : 1 ≤ dep ∧ dep ≤ 6) (h : Wr.RS w b g d s) (hk : (Wr.uR d s).1 = 10) :
    Calls Try.prog 24 #[.pointer (some ⟨b, 0, none⟩), .int .i64 dep] w (RdP b g d (rdF d (n + 1) s).1 (rdF d (n + 1) s).2 w) := by
  have HBG : Hid (b < w.heap.size ∧ g < w.heap.size) := hid_of ⟨(rs_lt h).1, (rs_lt h).2.1⟩
  have hsm := (rs_lt h).2.2
  have hdd : decide ((dep : Int) > 6) = false := by simp; omega
  have hdw : IntKind.i64.wrap ((dep : Int) + 1) = (dep : Int) + 1 := IntWalk.i64_in _ (by omega)
  obtain ⟨s1, hs1⟩ : ∃ s1, s1 = (Wr.uR d s).2 := ⟨_, rfl⟩
  obtain ⟨ns, hns⟩ : ∃ ns, ns = (nF d s1).1 := ⟨_, rfl⟩
  obtain ⟨s2, hs2⟩ : ∃ s2, s2 = (nF d s1).2 := ⟨_, rfl⟩
  have HON : Hid (Ok ns) := hid_of (fun y hy => by have := (nF_small d s1).1 y (by rw [← hns]; exact hy); omega)
  obtain ⟨m, hm⟩ : ∃ m, m = (rcF d 32 s2).1 := ⟨_, rfl⟩
  obtain ⟨s3, hs3⟩ : ∃ s3, s3 = (rcF d 32 s2).2 := ⟨_, rfl⟩
  obtain ⟨rs, hrs⟩ : ∃ rs, rs = (gN d s3 m).1 := ⟨_, rfl⟩
  obtain ⟨s4, hs4⟩ : ∃ s4, s4 = (gN d s3 m).2 := ⟨_, rfl⟩
  have hm32 : m ≤ 32 := by rw [hm]; exact rcF_le d 32 s2
  have HOR : Hid (OkR rs) := hid_of (fun r hr => by
    obtain ⟨a1, a2, a3⟩ := gN_small d s3 m r (by rw [← hrs]; exact hr)
    exact ⟨fun y hy => by have := a1 y hy; omega, by omega, by omega⟩)
  have HM : Hid (m = rs.length) := hid_of (by rw [hrs, gN_len])
  have HG : Hid (∀ j, j < m → rs[j]? = some ((nF d (gN d s3 j).2).1, strU (Wr.tR d (nF d (gN d s3 j).2).2).1)) := hid_of (fun j hj => by rw [hrs]; exact gN_get d s3 j m hj)
  have HS4 : Hid (s4 = (gN d s3 m).2) := hid_of hs4
  have EE : Hid (rdF d (n + 1) s = (⟨10, 0, 0, ns, [], rs⟩, s4)) := hid_of (by
    rw [rdF, hk, if_neg (by omega : ¬(10 < 10)), if_neg (by decide : ¬(10 = 2 ∨ 10 = 3)), if_neg (by decide : ¬(10 = 4 ∨ 10 = 8)), if_neg (by decide : ¬(10 = 5)), if_neg (by decide : ¬(10 = 6)), if_neg (by decide : ¬(10 = 7)), if_pos (by decide : 10 = 10), ← hs1, ← hns, ← hs2, ← hm, ← hs3, ← hrs, ← hs4]
    try rfl)
  rw [EE.out]
  show Calls Try.prog 24 #[.pointer (some ⟨b, 0, none⟩), .int .i64 dep] w (RdP b g d ⟨10, 0, 0, ns, [], rs⟩ (s4) w)
  have C0 : Hid (Calls Try.prog 50 #[.pointer (some ⟨b, 0, none⟩)] (w.alloc (.cells [.int .i64 0, .int .i64 0, .int .i64 0, .slice none 0 0, .slice none 0 0, .slice none 0 0].toArray 26 (0, 0))) (fun e w' => (e = .returned (.int .u64 10) ∧ w'.heap.size = (w.alloc (.cells [.int .i64 0, .int .i64 0, .int .i64 0, .slice none 0 0, .slice none 0 0, .slice none 0 0].toArray 26 (0, 0))).heap.size) ∧ RG b g d (w.alloc (.cells [.int .i64 0, .int .i64 0, .int .i64 0, .slice none 0 0, .slice none 0 0, .slice none 0 0].toArray 26 (0, 0))) w' s1)) := hid_of (by
    have h1 := uint_rg (RG.start (rs_same h ((bel_alloc w (.cells [.int .i64 0, .int .i64 0, .int .i64 0, .slice none 0 0, .slice none 0 0, .slice none 0 0].toArray 26 (0, 0))).block b HBG.out.1) ((bel_alloc w (.cells [.int .i64 0, .int .i64 0, .int .i64 0, .slice none 0 0, .slice none 0 0, .slice none 0 0].toArray 26 (0, 0))).block g HBG.out.2)))
    rw [hk, ← hs1] at h1
    exact h1)
  have S1 : Hid (∀ w1, RG b g d (w.alloc (.cells [.int .i64 0, .int .i64 0, .int .i64 0, .slice none 0 0, .slice none 0 0, .slice none 0 0].toArray 26 (0, 0))) w1 s1 → RS b g d w w1.heap.size (.int .i64 10) (.int .i64 0) (.int .i64 0) (.slice none 0 0) (.slice none 0 0) (.slice none 0 0) s1 (w1.alloc (.cells [.int .i64 10, .int .i64 0, .int .i64 0, .slice none 0 0, .slice none 0 0, .slice none 0 0].toArray 26 (0, 0)))) := hid_of (fun w1 k => RS.start k HBG.out _)
  have CN : Hid (∀ wa w2, RG b g d wa w2 s1 → Calls Try.prog 53 #[.pointer (some ⟨b, 0, none⟩)] w2 (NaP b g d ns s2 w2)) := hid_of (fun wa w2 k => by rw [hns, hs2]; exact rn_any b g d s1 w2 k.st)
  have CC : Hid (∀ wa w2, RG b g d wa w2 s2 → Calls Try.prog 54 #[.pointer (some ⟨b, 0, none⟩), .int .i64 32] w2 fun e w' => (e = .returned (.int .i64 m) ∧ w'.heap.size = w2.heap.size) ∧ RG b g d w2 w' s3) := hid_of (fun wa w2 k => by rw [hm, hs3]; exact rc_rg 32 k (by omega))
  clear hdep h hk hs1 hns hs2 hm hs3 hrs hs4 hsm
  go_enter Try.func24, Try.ntmps24
  go_wp2_with (first
    | (go_at_call 50; ((with_reducible refine (C0.out).mono ?_); (rintro e w1 ⟨⟨rfl, q0⟩, q1⟩)); have R1 := hid_of (S1.out w1 q1); clear q0 q1)
    | (go_at_call 53; ((with_reducible refine (CN.out _ _ R1.out.rg).mono ?_); (rintro e w2 ⟨no, nc, rfl, q1, q2, q3⟩)); have R2 := hid_of (R1.out.call q3); have N2 := hid_of (ns_mk (T := Bh w1.heap.size w2) q1 q2 (fun k hk => ⟨Nat.lt_of_lt_of_le R1.out.hp.2 hk.1, hk.2⟩)); clear q1 q2 q3; have R3 := hid_of (R2.out.set 3 (.slice no ns.length nc) rfl); have N3 := hid_of (N2.out.setBox 3 (.slice no ns.length nc)); obtain ⟨z0, z1, z2, z3, z4, z5⟩ := R2.out.cells; have f3 := R2.out.free 3)
    | (go_at_call 54; ((with_reducible refine (CC.out _ _ R3.out.rg).mono ?_); (rintro e w3 ⟨⟨rfl, q0⟩, q1⟩)); have L3 := hid_of (show LQ b g d w w1.heap.size ns rs no nc 0 none 0 [] s3 w3 from lq_start (R3.out.call q1) (N3.out.call R3.out q1)); clear q0 q1))
  go_loopw [8, 94] (fun v8 iv wr => ∃ (x8 : Value) (j : Nat) (ro : Option Addr) (rc : Nat) (ds : List PV), v8 = x8 ∧ j ≤ m ∧ iv = .int .i64 j ∧ Hid (LQ b g d w w1.heap.size ns rs no nc j ro rc ds (gN d s3 j).2 wr)) (fun _ iv _ => m - (intOf iv).toNat)
  case atStart => exact ⟨_, 0, none, 0, [], rfl, Nat.zero_le _, rfl, L3⟩
  case round =>
    obtain ⟨x8, j, ro, rc, ds, rfl, hj, rfl, hk⟩ := hrel
    by_cases hlt : j < m
    · have hdd2 : decide (j < m) = true := by simp; omega
      obtain ⟨q, hq⟩ : ∃ q, q = ((nF d (gN d s3 j).2).1, strU (Wr.tR d (nF d (gN d s3 j).2).2).1) := ⟨_, rfl⟩
      obtain ⟨t1, ht1⟩ : ∃ t1, t1 = (nF d (gN d s3 j).2).2 := ⟨_, rfl⟩
      obtain ⟨t2, ht2⟩ : ∃ t2, t2 = (Wr.tR d t1).2 := ⟨_, rfl⟩
      have HQ : Hid (rs[j]? = some q) := hid_of (by rw [hq]; exact HG.out j hlt)
      have HNX : Hid (t2 = (gN d s3 (j + 1)).2) := hid_of (by rw [ht2, ht1]; rfl)
      have C2 : Hid (Calls Try.prog 53 #[.pointer (some ⟨b, 0, none⟩)] wr (NaP b g d q.1 t1 wr)) := hid_of (by rw [hq, ht1]; exact rn_any b g d _ wr hk.out.st.rg.st)
      have CT0 : Hid (∀ wa w2, RG b g d wa w2 t1 → Calls Try.prog 55 #[.pointer (some ⟨b, 0, none⟩)] w2 fun e w' => (e = .returned (.string (ba q.2)) ∧ w'.heap.size = w2.heap.size) ∧ RG b g d w2 w' t2) := hid_of (fun wa w2 k => by rw [hq, ht2, ht1]; rw [ht1] at k; exact text_rg k)
      obtain ⟨bx, hbx⟩ : ∃ bx, bx = ba q.2 := ⟨_, rfl⟩
      have HBX := hid_of hbx
      clear hq hbx ht1 ht2
      go_wp2_with (go_at_call 53; ((with_reducible refine (C2.out).mono ?_); (rintro e w4 ⟨xo, xc, rfl, q1, q2, q3⟩)); have K4 := hid_of (hk.out.call q3); have P4 := hid_of (lq_kid hk.out q3 q1 q2); clear q1 q2 q3)
      have K5 := hid_of K4.out.drew
      have P5 : Hid (NS (SK w1.heap.size w4.drew (.slice ro j rc) (.slice none 0 0)) w4.drew (.slice xo q.1.length xc) q.1) := hid_of (P4.out.keep ⟨Nat.le_refl _, fun _ _ _ => rfl⟩)
      have CT : Hid (Calls Try.prog 55 #[.pointer (some ⟨b, 0, none⟩)] w4.drew fun e w' => (e = .returned (.string bx) ∧ w'.heap.size = w4.drew.heap.size) ∧ RG b g d w4.drew w' t2) := hid_of (by rw [HBX.out]; exact CT0.out _ _ K5.out.st.rg)
      obtain ⟨s0', s1', s2', s3', s4', s5'⟩ := K4.out.st.cells
      go_region_law (first
        | (go_simp; go_at_call 55; ((with_reducible refine (CT.out).mono ?_); (rintro e w5 ⟨⟨rfl, q0⟩, q1⟩)); have K6 := hid_of (K5.out.call q1); have P6 := hid_of (NS.stay K5.out P5.out q1); clear q0 q1; obtain ⟨z0, z1, z2, z3, z4, z5⟩ := K6.out.st.cells; have K7 := hid_of (K6.out.alloc (.cells #[.slice xo q.1.length xc, .string bx] 58)); have P7 := hid_of ((P6.out.keep (keeps_alloc _ w5 (.cells #[.slice xo q.1.length xc, .string bx] 58))).mono (sk_alloc w1.heap.size w5 (.cells #[.slice xo q.1.length xc, .string bx] 58) _ _)); obtain ⟨v0, v1, v2, v3, v4, v5⟩ := K7.out.st.cells)
        | (refine step_gen 24 58 (.agg #[.slice none 0 0, .string ⟨#[]⟩]) 40 2 rulL2.und rulL2.info rulL2.two (by decide) (by kernel_rfl) (.tmp 99) (.tmp 104) (by kernel_rfl) (v := .slice ro j rc) (by kernel_rfl) K7.out.rul (by have := K7.out.st.hp; omega) (vx := .slice (some ⟨w5.heap.size, 0, none⟩) 1 1) (by kernel_rfl) (src_rul w5 (.slice xo q.1.length xc) (.string bx) rfl rfl) (by omega) (by omega) ?_; intro ao cap w6 ga; have K8 := hid_of (K7.out.rule HQ.out P7.out (by rw [← HBX.out]; exact ga)); have B8 := hid_of (K7.out.st.bel (ga_bel ga K7.out.rul (by have := K7.out.st.hp; omega)) (by omega)); obtain ⟨u0, u1, u2, u3, u4, u5⟩ := B8.out.cells; have f5 := B8.out.free 5; clear ga))
      all_goals go_wp2
      all_goals go_roundw
      all_goals first
        | (exact ⟨_, j + 1, _, _, _, rfl, by omega, by go_num, hid_of (by rw [← HNX.out]; exact K8.out)⟩)
        | (simp [intOf]; omega)
    · have hdd2 : decide (j < m) = false := by simp; omega
      obtain rfl : m = j := by omega
      have HF : Hid (LQ b g d w w1.heap.size ns rs no nc rs.length ro rc ds s4 wr) := hid_of (by
        have h1 := hk.out
        have e1 := HM.out
        rw [← HS4.out] at h1
        rw [← e1]
        exact h1)
      obtain ⟨y0, y1, y2, y3, y4, y5⟩ := hk.out.st.cells
      go_wp2_with (refine wpList_store_row rfl 26 (.tmp 4) (.tmp 108) rfl w.heap.size #[.int .i64 10, .int .i64 0, .int .i64 0, .slice no ns.length nc, .slice none 0 0, .slice ro m rc] rfl rfl 26 _ HF.out.st.res infoLat rfl (by simp [Value.oneCell']) ?_)
      refine bodyPost_ret (results_cell_row rfl _ _ w.heap.size 26 #[.int .i64 10, .int .i64 0, .int .i64 0, .slice no ns.length nc, .slice none 0 0, .slice ro m rc] (0, 0) _ rfl (setRow_heap _ _ _ _ _ _ HF.out.st.res) Try.underlying26 rfl infoLat) rfl ?_
      exact RS.fin (t := ⟨10, 0, 0, ns, [], rs⟩) HF.out.st ⟨⟨by simp only [Lat.k]; omega, by simp only [Lat.k]; omega⟩, ⟨by simp only [Lat.lo]; omega, by simp only [Lat.lo]; omega⟩, ⟨by simp only [Lat.hi]; omega, by simp only [Lat.hi]; omega⟩⟩ HON.out HOR.out HF.out.fin.1 (ps_nil _ _) HF.out.fin.2 _ (by
        show _ = Ending.returned (.agg #[.int .i64 10, .int .i64 0, .int .i64 0, .slice no ns.length nc, .slice none 0 0, .slice ro rs.length rc])
        rw [← HM.out])
theorem rq_7 (hdep : 1 ≤ dep ∧ dep ≤ 6) (h : Wr.RS w b g d s) (hk : (Wr.uR d s).1 = 7) (IH : RQ b g d n (dep + 1)) :
    Calls Try.prog 24 #[.pointer (some ⟨b, 0, none⟩), .int .i64 dep] w (RdP b g d (rdF d (n + 1) s).1 (rdF d (n + 1) s).2 w) := by
  have HBG : Hid (b < w.heap.size ∧ g < w.heap.size) := hid_of ⟨(rs_lt h).1, (rs_lt h).2.1⟩
  have hsm := (rs_lt h).2.2
  have hdd : decide ((dep : Int) > 6) = false := by simp; omega
  have hdw : IntKind.i64.wrap ((dep : Int) + 1) = (dep : Int) + 1 := IntWalk.i64_in _ (by omega)
  obtain ⟨s1, hs1⟩ : ∃ s1, s1 = (Wr.uR d s).2 := ⟨_, rfl⟩
  obtain ⟨p, hp⟩ : ∃ p, p = (rdF d n s1).1 := ⟨_, rfl⟩
  obtain ⟨s2, hs2⟩ : ∃ s2, s2 = (rdF d n s1).2 := ⟨_, rfl⟩
  obtain ⟨q, hq⟩ : ∃ q, q = (rdF d n s2).1 := ⟨_, rfl⟩
  obtain ⟨s3, hs3⟩ : ∃ s3, s3 = (rdF d n s2).2 := ⟨_, rfl⟩
  have EE : Hid (rdF d (n + 1) s = (⟨7, 0, 0, [], [p, q], []⟩, s3)) := hid_of (by
    rw [rdF, hk, if_neg (by omega : ¬(10 < 7)), if_neg (by decide : ¬(7 = 2 ∨ 7 = 3)), if_neg (by decide : ¬(7 = 4 ∨ 7 = 8)), if_neg (by decide : ¬(7 = 5)), if_neg (by decide : ¬(7 = 6)), if_pos (by decide : 7 = 7), ← hs1, ← hs2, ← hp, ← hq, ← hs3]
    try rfl)
  rw [EE.out]
  show Calls Try.prog 24 #[.pointer (some ⟨b, 0, none⟩), .int .i64 dep] w (RdP b g d ⟨7, 0, 0, [], [p, q], []⟩ (s3) w)
  have C0 : Hid (Calls Try.prog 50 #[.pointer (some ⟨b, 0, none⟩)] (w.alloc (.cells [.int .i64 0, .int .i64 0, .int .i64 0, .slice none 0 0, .slice none 0 0, .slice none 0 0].toArray 26 (0, 0))) (fun e w' => (e = .returned (.int .u64 7) ∧ w'.heap.size = (w.alloc (.cells [.int .i64 0, .int .i64 0, .int .i64 0, .slice none 0 0, .slice none 0 0, .slice none 0 0].toArray 26 (0, 0))).heap.size) ∧ RG b g d (w.alloc (.cells [.int .i64 0, .int .i64 0, .int .i64 0, .slice none 0 0, .slice none 0 0, .slice none 0 0].toArray 26 (0, 0))) w' s1)) := hid_of (by
    have h1 := uint_rg (RG.start (rs_same h ((bel_alloc w (.cells [.int .i64 0, .int .i64 0, .int .i64 0, .slice none 0 0, .slice none 0 0, .slice none 0 0].toArray 26 (0, 0))).block b HBG.out.1) ((bel_alloc w (.cells [.int .i64 0, .int .i64 0, .int .i64 0, .slice none 0 0, .slice none 0 0, .slice none 0 0].toArray 26 (0, 0))).block g HBG.out.2)))
    rw [hk, ← hs1] at h1
    exact h1)
  have S1 : Hid (∀ w1, RG b g d (w.alloc (.cells [.int .i64 0, .int .i64 0, .int .i64 0, .slice none 0 0, .slice none 0 0, .slice none 0 0].toArray 26 (0, 0))) w1 s1 → RS b g d w w1.heap.size (.int .i64 7) (.int .i64 0) (.int .i64 0) (.slice none 0 0) (.slice none 0 0) (.slice none 0 0) s1 (w1.alloc (.cells [.int .i64 7, .int .i64 0, .int .i64 0, .slice none 0 0, .slice none 0 0, .slice none 0 0].toArray 26 (0, 0)))) := hid_of (fun w1 k => RS.start k HBG.out _)
  have CP : Hid (∀ wa w2, RG b g d wa w2 s1 → Calls Try.prog 24 #[.pointer (some ⟨b, 0, none⟩), .int .i64 ((dep : Int) + 1)] w2 (RdP b g d p s2 w2)) := hid_of (fun wa w2 k => by rw [hp, hs2]; exact IH s1 w2 k.st)
  have CQ : Hid (∀ wa w2, RG b g d wa w2 s2 → Calls Try.prog 24 #[.pointer (some ⟨b, 0, none⟩), .int .i64 ((dep : Int) + 1)] w2 (RdP b g d q s3 w2)) := hid_of (fun wa w2 k => by rw [hq, hs3]; exact IH s2 w2 k.st)
  clear hdep h hk hs1 hp hs2 hq hs3 IH hsm
  go_enter Try.func24, Try.ntmps24
  go_wp2_with (first
    | (go_at_call 50; ((with_reducible refine (C0.out).mono ?_); (rintro e w1 ⟨⟨rfl, q0⟩, q1⟩)); have R1 := hid_of (S1.out w1 q1); clear q0 q1)
    | (go_at_call 24; ((with_reducible refine (CP.out _ _ R1.out.rg).mono ?_); (rintro e w2 ⟨a1, ac1, b1, bc1, c1, cc1, rfl, q1, q2⟩)); have R2 := hid_of (R1.out.call q2); have L2 := hid_of q1; clear q1 q2; have R3 := hid_of (R2.out.alloc (.cells #[.int .i64 p.k, .int .i64 p.lo, .int .i64 p.hi, .slice a1 p.ns.length ac1, .slice b1 p.ps.length bc1, .slice c1 p.rs.length cc1] 26)); have L3 := hid_of (L2.out.keep (keeps_alloc _ w2 (.cells #[.int .i64 p.k, .int .i64 p.lo, .int .i64 p.hi, .slice a1 p.ns.length ac1, .slice b1 p.ps.length bc1, .slice c1 p.rs.length cc1] 26))); have B3 : Hid ((w2.alloc (.cells #[.int .i64 p.k, .int .i64 p.lo, .int .i64 p.hi, .slice a1 p.ns.length ac1, .slice b1 p.ps.length bc1, .slice c1 p.rs.length cc1] 26)).heap[w2.heap.size]? = some (.cells [.int .i64 p.k, .int .i64 p.lo, .int .i64 p.hi, .slice a1 p.ns.length ac1, .slice b1 p.ps.length bc1, .slice c1 p.rs.length cc1].toArray 26 (0, 0))) := hid_of (heap_alloc_new w2 _); have Z3 : Hid (w2.heap.size < (w2.alloc (.cells #[.int .i64 p.k, .int .i64 p.lo, .int .i64 p.hi, .slice a1 p.ns.length ac1, .slice b1 p.ps.length bc1, .slice c1 p.rs.length cc1] 26)).heap.size) := hid_of (by simp)))
  obtain ⟨wb, hwb⟩ : ∃ wb, wb = w2.alloc (.cells #[.int .i64 p.k, .int .i64 p.lo, .int .i64 p.hi, .slice a1 p.ns.length ac1, .slice b1 p.ps.length bc1, .slice c1 p.rs.length cc1] 26) := ⟨_, rfl⟩
  rw [← hwb] at R3 L3 B3 Z3
  have HWB := hid_of hwb.symm
  clear hwb
  have R4 := hid_of R3.out.drew
  have L4 := hid_of (L3.out.keep (w' := wb.drew) ⟨Nat.le_refl _, fun _ _ _ => rfl⟩)
  have B4 : Hid (wb.drew.heap[w2.heap.size]? = some (.cells [.int .i64 p.k, .int .i64 p.lo, .int .i64 p.hi, .slice a1 p.ns.length ac1, .slice b1 p.ps.length bc1, .slice c1 p.rs.length cc1].toArray 26 (0, 0))) := hid_of B3.out
  have HKS : Hid (∀ X : World, X.heap[w2.heap.size]? = some (.cells [.int .i64 p.k, .int .i64 p.lo, .int .i64 p.hi, .slice a1 p.ns.length ac1, .slice b1 p.ps.length bc1, .slice c1 p.rs.length cc1].toArray 26 (0, 0)) → X.cell? ⟨w2.heap.size, 0, none⟩ = some (.int .i64 p.k) ∧ X.cell? ⟨w2.heap.size, 1, none⟩ = some (.int .i64 p.lo) ∧ X.cell? ⟨w2.heap.size, 2, none⟩ = some (.int .i64 p.hi) ∧ X.cell? ⟨w2.heap.size, 3, none⟩ = some (.slice a1 p.ns.length ac1) ∧ X.cell? ⟨w2.heap.size, 4, none⟩ = some (.slice b1 p.ps.length bc1) ∧ X.cell? ⟨w2.heap.size, 5, none⟩ = some (.slice c1 p.rs.length cc1)) := hid_of (fun X e => ⟨cell_blk e rfl, cell_blk e rfl, cell_blk e rfl, cell_blk e rfl, cell_blk e rfl, cell_blk e rfl⟩)
  rw [HWB.out]
  go_region_held3 (fun X => X.cell? ⟨w2.heap.size, 0, none⟩ = some (.int .i64 p.k) ∧ X.cell? ⟨w2.heap.size, 1, none⟩ = some (.int .i64 p.lo) ∧ X.cell? ⟨w2.heap.size, 2, none⟩ = some (.int .i64 p.hi) ∧ X.cell? ⟨w2.heap.size, 3, none⟩ = some (.slice a1 p.ns.length ac1) ∧ X.cell? ⟨w2.heap.size, 4, none⟩ = some (.slice b1 p.ps.length bc1) ∧ X.cell? ⟨w2.heap.size, 5, none⟩ = some (.slice c1 p.rs.length cc1)) (exact HKS.out _ (Hid.out (by with_reducible assumption))) (first
    | (go_at_call 24; ((with_reducible refine (CQ.out _ _ R4.out.rg).mono ?_); (rintro e w3 ⟨a2, ac2, b2, bc2, c2, cc2, rfl, q1, q2⟩)); have R5 := hid_of (R4.out.call q2); have B5 : Hid (w3.heap[w2.heap.size]? = some (.cells [.int .i64 p.k, .int .i64 p.lo, .int .i64 p.hi, .slice a1 p.ns.length ac1, .slice b1 p.ps.length bc1, .slice c1 p.rs.length cc1].toArray 26 (0, 0))) := hid_of ((q2.blk (by have := Z3.out; exact this) (by have := R2.out.hp; have := HBG.out; omega)).trans B4.out); have B6 : Hid ((w3.alloc (.cells #[.int .i64 p.k, .int .i64 p.lo, .int .i64 p.hi, .slice a1 p.ns.length ac1, .slice b1 p.ps.length bc1, .slice c1 p.rs.length cc1, .int .i64 q.k, .int .i64 q.lo, .int .i64 q.hi, .slice a2 q.ns.length ac2, .slice b2 q.ps.length bc2, .slice c2 q.rs.length cc2] 26)).heap[w2.heap.size]? = some (.cells [.int .i64 p.k, .int .i64 p.lo, .int .i64 p.hi, .slice a1 p.ns.length ac1, .slice b1 p.ps.length bc1, .slice c1 p.rs.length cc1].toArray 26 (0, 0))) := hid_of (((bel_alloc w3 _).block _ (lt_of_block B5.out)).trans B5.out); have P5 := hid_of (ps_two (T := Bh w1.heap.size (w3.alloc (.cells #[.int .i64 p.k, .int .i64 p.lo, .int .i64 p.hi, .slice a1 p.ns.length ac1, .slice b1 p.ps.length bc1, .slice c1 p.rs.length cc1, .int .i64 q.k, .int .i64 q.lo, .int .i64 q.hi, .slice a2 q.ns.length ac2, .slice b2 q.ps.length bc2, .slice c2 q.rs.length cc2] 26))) (L4.out.keep (keeps_rg q2 (fun hk => by have := hk.1; have := HBG.out; have := R1.out.hp; omega))) q1 (fun k hk => ⟨Nat.lt_of_lt_of_le R1.out.hp.2 hk.1, by have := hk.2; have := lt_of_block B5.out; simp; omega⟩) (fun k hk => ⟨Nat.lt_of_lt_of_le R3.out.hp.2 hk.1, by have := hk.2; simp; omega⟩) ⟨R5.out.hp.2, by simp⟩ 26); have R6 := hid_of (R5.out.alloc (.cells #[.int .i64 p.k, .int .i64 p.lo, .int .i64 p.hi, .slice a1 p.ns.length ac1, .slice b1 p.ps.length bc1, .slice c1 p.rs.length cc1, .int .i64 q.k, .int .i64 q.lo, .int .i64 q.hi, .slice a2 q.ns.length ac2, .slice b2 q.ps.length bc2, .slice c2 q.rs.length cc2] 26)); have R7 := hid_of (R6.out.set 4 (.slice (some ⟨w3.heap.size, 0, none⟩) 2 2) rfl); have P7 := hid_of (PS.setBox P5.out 4 (.slice (some ⟨w3.heap.size, 0, none⟩) 2 2)); have B7 : Hid (((w3.alloc (.cells #[.int .i64 p.k, .int .i64 p.lo, .int .i64 p.hi, .slice a1 p.ns.length ac1, .slice b1 p.ps.length bc1, .slice c1 p.rs.length cc1, .int .i64 q.k, .int .i64 q.lo, .int .i64 q.hi, .slice a2 q.ns.length ac2, .slice b2 q.ps.length bc2, .slice c2 q.rs.length cc2] 26)).setCell ⟨w1.heap.size, 4, none⟩ (.slice (some ⟨w3.heap.size, 0, none⟩) 2 2)).heap[w2.heap.size]? = some (.cells [.int .i64 p.k, .int .i64 p.lo, .int .i64 p.hi, .slice a1 p.ns.length ac1, .slice b1 p.ps.length bc1, .slice c1 p.rs.length cc1].toArray 26 (0, 0))) := hid_of ((set_blk 0 (by have := R2.out.hp; omega)).trans B6.out); clear q1 q2; obtain ⟨u0, u1, u2, u3, u4, u5⟩ := R6.out.cells; have f4 := R6.out.free 4; obtain ⟨y0, y1, y2, y3, y4, y5⟩ := R7.out.cells))
  all_goals go_wp2_with (refine wpList_store_row rfl 26 (.tmp 4) (.tmp 108) rfl w.heap.size #[.int .i64 7, .int .i64 0, .int .i64 0, .slice none 0 0, .slice (some ⟨w3.heap.size, 0, none⟩) 2 2, .slice none 0 0] rfl rfl 26 _ R7.out.res infoLat rfl (by simp [Value.oneCell']) ?_)
  all_goals (refine bodyPost_ret (results_cell_row rfl _ _ w.heap.size 26 #[.int .i64 7, .int .i64 0, .int .i64 0, .slice none 0 0, .slice (some ⟨w3.heap.size, 0, none⟩) 2 2, .slice none 0 0] (0, 0) _ rfl (setRow_heap _ _ _ _ _ _ R7.out.res) Try.underlying26 rfl infoLat) rfl ?_;   exact RS.fin (t := ⟨7, 0, 0, [], [p, q], []⟩) R7.out ⟨⟨by simp only [Lat.k]; omega, by simp only [Lat.k]; omega⟩, ⟨by simp only [Lat.lo]; omega, by simp only [Lat.lo]; omega⟩, ⟨by simp only [Lat.hi]; omega, by simp only [Lat.hi]; omega⟩⟩ (fun y hy => by simp [Lat.ns] at hy) (fun y hy => by simp [Lat.rs] at hy) (ns_nil _ _) (P7.out) (rus_nil _ _) _ rfl)
theorem rq_6 (hdep : 1 ≤ dep ∧ dep ≤ 6) (h : Wr.RS w b g d s) (hk : (Wr.uR d s).1 = 6) (IH : RQ b g d n (dep + 1)) :
    Calls Try.prog 24 #[.pointer (some ⟨b, 0, none⟩), .int .i64 dep] w (RdP b g d (rdF d (n + 1) s).1 (rdF d (n + 1) s).2 w) := by
  have HBG : Hid (b < w.heap.size ∧ g < w.heap.size) := hid_of ⟨(rs_lt h).1, (rs_lt h).2.1⟩
  have hsm := (rs_lt h).2.2
  have hdd : decide ((dep : Int) > 6) = false := by simp; omega
  have hdw : IntKind.i64.wrap ((dep : Int) + 1) = (dep : Int) + 1 := IntWalk.i64_in _ (by omega)
  obtain ⟨s1, hs1⟩ : ∃ s1, s1 = (Wr.uR d s).2 := ⟨_, rfl⟩
  obtain ⟨cn, hcn⟩ : ∃ cn, cn = (rcF d 8 s1).1 := ⟨_, rfl⟩
  obtain ⟨s2, hs2⟩ : ∃ s2, s2 = (rcF d 8 s1).2 := ⟨_, rfl⟩
  obtain ⟨f, hf⟩ : ∃ f, f = rdF d n := ⟨_, rfl⟩
  obtain ⟨ns, hns⟩ : ∃ ns, ns = (pN f d s2 cn).1.1 := ⟨_, rfl⟩
  obtain ⟨ps, hps⟩ : ∃ ps, ps = (pN f d s2 cn).1.2 := ⟨_, rfl⟩
  obtain ⟨s3, hs3⟩ : ∃ s3, s3 = (pN f d s2 cn).2 := ⟨_, rfl⟩
  have hn8 : cn ≤ 8 := by rw [hcn]; exact rcF_le d 8 s1
  have HON : Hid (Ok ns) := hid_of (fun y hy => by have := pN_small f d s2 cn y (by rw [← hns]; exact hy); omega)
  have HN : Hid (cn = ns.length ∧ ps.length = ns.length) := hid_of (by have := pN_len f d s2 cn; rw [← hns, ← hps] at this; omega)
  have HT : Hid (∀ j, j ≤ cn → ns.take j = (pN f d s2 j).1.1) := hid_of (fun j hj => by rw [hns]; exact pN_take f d s2 j cn hj)
  have HG : Hid (∀ j, j < cn → ns[j]? = some (strU (Wr.tR d (pN f d s2 j).2).1) ∧ ps[j]? = some (f (Wr.tR d (pN f d s2 j).2).2).1) := hid_of (fun j hj => by rw [hns, hps]; exact pN_get f d s2 j cn hj)
  have HS3 : Hid (s3 = (pN f d s2 cn).2) := hid_of hs3
  have EE : Hid (rdF d (n + 1) s = (⟨6, 0, 0, ns, ps, []⟩, s3)) := hid_of (by
    rw [rdF, hk, if_neg (by omega : ¬(10 < 6)), if_neg (by decide : ¬(6 = 2 ∨ 6 = 3)), if_neg (by decide : ¬(6 = 4 ∨ 6 = 8)), if_neg (by decide : ¬(6 = 5)), if_pos (by decide : 6 = 6), ← hs1, ← hcn, ← hs2, ← hf, ← hns, ← hps, ← hs3]
    try rfl)
  rw [EE.out]
  show Calls Try.prog 24 #[.pointer (some ⟨b, 0, none⟩), .int .i64 dep] w (RdP b g d ⟨6, 0, 0, ns, ps, []⟩ (s3) w)
  have C0 : Hid (Calls Try.prog 50 #[.pointer (some ⟨b, 0, none⟩)] (w.alloc (.cells [.int .i64 0, .int .i64 0, .int .i64 0, .slice none 0 0, .slice none 0 0, .slice none 0 0].toArray 26 (0, 0))) (fun e w' => (e = .returned (.int .u64 6) ∧ w'.heap.size = (w.alloc (.cells [.int .i64 0, .int .i64 0, .int .i64 0, .slice none 0 0, .slice none 0 0, .slice none 0 0].toArray 26 (0, 0))).heap.size) ∧ RG b g d (w.alloc (.cells [.int .i64 0, .int .i64 0, .int .i64 0, .slice none 0 0, .slice none 0 0, .slice none 0 0].toArray 26 (0, 0))) w' s1)) := hid_of (by
    have h1 := uint_rg (RG.start (rs_same h ((bel_alloc w (.cells [.int .i64 0, .int .i64 0, .int .i64 0, .slice none 0 0, .slice none 0 0, .slice none 0 0].toArray 26 (0, 0))).block b HBG.out.1) ((bel_alloc w (.cells [.int .i64 0, .int .i64 0, .int .i64 0, .slice none 0 0, .slice none 0 0, .slice none 0 0].toArray 26 (0, 0))).block g HBG.out.2)))
    rw [hk, ← hs1] at h1
    exact h1)
  have S1 : Hid (∀ w1, RG b g d (w.alloc (.cells [.int .i64 0, .int .i64 0, .int .i64 0, .slice none 0 0, .slice none 0 0, .slice none 0 0].toArray 26 (0, 0))) w1 s1 → RS b g d w w1.heap.size (.int .i64 6) (.int .i64 0) (.int .i64 0) (.slice none 0 0) (.slice none 0 0) (.slice none 0 0) s1 (w1.alloc (.cells [.int .i64 6, .int .i64 0, .int .i64 0, .slice none 0 0, .slice none 0 0, .slice none 0 0].toArray 26 (0, 0)))) := hid_of (fun w1 k => RS.start k HBG.out _)
  have CC : Hid (∀ wa w2, RG b g d wa w2 s1 → Calls Try.prog 54 #[.pointer (some ⟨b, 0, none⟩), .int .i64 8] w2 fun e w' => (e = .returned (.int .i64 cn) ∧ w'.heap.size = w2.heap.size) ∧ RG b g d w2 w' s2) := hid_of (fun wa w2 k => by rw [hcn, hs2]; exact rc_rg 8 k (by omega))
  have CRF : Hid (∀ st wa w2, RG b g d wa w2 st → Calls Try.prog 24 #[.pointer (some ⟨b, 0, none⟩), .int .i64 ((dep : Int) + 1)] w2 (RdP b g d (f st).1 (f st).2 w2)) := hid_of (fun st wa w2 k => by rw [hf]; exact IH st w2 k.st)
  clear hdep h hk hs1 hs2 hcn hf hns hps hs3 IH hsm
  go_enter Try.func24, Try.ntmps24
  go_wp2_with (first
    | (go_at_call 50; ((with_reducible refine (C0.out).mono ?_); (rintro e w1 ⟨⟨rfl, q0⟩, q1⟩)); have R1 := hid_of (S1.out w1 q1); clear q0 q1)
    | (go_at_call 54; ((with_reducible refine (CC.out _ _ R1.out.rg).mono ?_); (rintro e w2 ⟨⟨rfl, q0⟩, q1⟩)); have L2 := hid_of (show LP b g d w w1.heap.size ns ps 0 0 none 0 none 0 [] s2 w2 from lp_start (R1.out.call q1)); clear q0 q1))
  go_loopw [55] (fun iv wr => ∃ (j : Nat) (no : Option Addr) (nc : Nat) (po : Option Addr) (pc : Nat) (qs : List LX), j ≤ cn ∧ iv = .int .i64 j ∧ Hid (LP b g d w w1.heap.size ns ps j j no nc po pc qs (pN f d s2 j).2 wr)) (fun iv _ => cn - (intOf iv).toNat)
  case atStart => exact ⟨0, none, 0, none, 0, [], Nat.zero_le _, rfl, L2⟩
  case round =>
    obtain ⟨j, no, nc, po, pc, qs, hj, rfl, hk⟩ := hrel
    by_cases hlt : j < cn
    · have hdd2 : decide (j < cn) = true := by simp; omega
      obtain ⟨x, hx⟩ : ∃ x, x = strU (Wr.tR d (pN f d s2 j).2).1 := ⟨_, rfl⟩
      obtain ⟨t1, ht1⟩ : ∃ t1, t1 = (Wr.tR d (pN f d s2 j).2).2 := ⟨_, rfl⟩
      obtain ⟨u, hu⟩ : ∃ u, u = (f t1).1 := ⟨_, rfl⟩
      obtain ⟨t2, ht2⟩ : ∃ t2, t2 = (f t1).2 := ⟨_, rfl⟩
      have HX : Hid (ns[j]? = some x) := hid_of (by rw [hx]; exact (HG.out j hlt).1)
      have HU : Hid (ps[j]? = some u) := hid_of (by rw [hu, ht1]; exact (HG.out j hlt).2)
      have HNX : Hid (t2 = (pN f d s2 (j + 1)).2) := hid_of (by rw [ht2, ht1]; rfl)
      have K1 := hid_of hk.out.drew
      have CT : Hid (Calls Try.prog 55 #[.pointer (some ⟨b, 0, none⟩)] wr.drew fun e w' => (e = .returned (.string (ba x)) ∧ w'.heap.size = wr.drew.heap.size) ∧ RG b g d wr.drew w' t1) := hid_of (by rw [hx, ht1]; exact text_rg K1.out.st.rg)
      have CR : Hid (∀ wa w2, RG b g d wa w2 t1 → Calls Try.prog 24 #[.pointer (some ⟨b, 0, none⟩), .int .i64 ((dep : Int) + 1)] w2 (RdP b g d u t2 w2)) := hid_of (fun wa w2 k => by rw [hu, ht2]; exact CRF.out t1 wa w2 k)
      obtain ⟨bx, hbx⟩ : ∃ bx, bx = ba x := ⟨_, rfl⟩
      rw [← hbx] at CT
      have HBX := hid_of hbx
      clear hx hu ht1 ht2 hbx
      obtain ⟨s0', s1', s2', s3', s4', s5'⟩ := hk.out.st.cells
      go_wp2
      go_cut [] from 57 to 63 (fun wx => ∃ no2 nc2, Hid (LP b g d w w1.heap.size ns ps (j + 1) j no2 nc2 po pc qs t1 wx))
      case first =>
        go_region_law (first
          | (go_simp; go_at_call 55; ((with_reducible refine (CT.out).mono ?_); (rintro e w2 ⟨⟨rfl, q0⟩, q1⟩)); have K2 := hid_of (K1.out.call q1); clear q0 q1; obtain ⟨z0, z1, z2, z3, z4, z5⟩ := K2.out.st.cells; have K3 := hid_of (K2.out.alloc (.cells #[.string bx] 9)); obtain ⟨v0, v1, v2, v3, v4, v5⟩ := K3.out.st.cells)
          | (refine step_gen 22 9 (.string ⟨#[]⟩) 16 1 strsE.und strsE.info strsE.one (by decide) (by kernel_rfl) (.tmp 58) (.tmp 61) (by kernel_rfl) (v := .slice no j nc) (by kernel_rfl) K3.out.nam (by have := K3.out.st.hp; omega) (vx := .slice (some ⟨w2.heap.size, 0, none⟩) 1 1) (by kernel_rfl) (src_str w2 bx) (by omega) (by omega) ?_; intro ao cap w4 ga; have K5 := hid_of (K3.out.name HX.out (by rw [← HBX.out]; exact ga)); have B4 := hid_of (K3.out.st.bel (ga_bel ga K3.out.nam (by have := K3.out.st.hp; omega)) (by omega)); obtain ⟨u0, u1, u2, u3, u4, u5⟩ := B4.out.cells; have f3 := B4.out.free 3; clear ga))
        all_goals go_wp2_with fail
        all_goals go_meet
        all_goals exact ⟨_, _, K5⟩
      case rest =>
        obtain ⟨no2, nc2, hk2⟩ := hcut
        have J1 := hid_of hk2.out.drew
        obtain ⟨t0', t1', t2', t3', t4', t5'⟩ := hk2.out.st.cells
        go_wp2
        go_region_law (first
            | (go_simp; go_at_call 24; ((with_reducible refine (CR.out _ _ J1.out.st.rg).mono ?_); (rintro e w2 ⟨a2, ac2, b2, bc2, c2, cc2, rfl, q1, q2⟩)); have J2 := hid_of (J1.out.call q2); have X2 := hid_of (lp_kid J1.out q2 q1); clear q1 q2; obtain ⟨z0, z1, z2, z3, z4, z5⟩ := J2.out.st.cells; have J3 := hid_of (J2.out.alloc (.cells #[.int .i64 u.k, .int .i64 u.lo, .int .i64 u.hi, .slice a2 u.ns.length ac2, .slice b2 u.ps.length bc2, .slice c2 u.rs.length cc2] 26)); have X3 := hid_of ((X2.out.keep (keeps_alloc _ w2 (.cells #[.int .i64 u.k, .int .i64 u.lo, .int .i64 u.hi, .slice a2 u.ns.length ac2, .slice b2 u.ps.length bc2, .slice c2 u.rs.length cc2] 26))).mono (sk_alloc w1.heap.size w2 (.cells #[.int .i64 u.k, .int .i64 u.lo, .int .i64 u.hi, .slice a2 u.ns.length ac2, .slice b2 u.ps.length bc2, .slice c2 u.rs.length cc2] 26) _ _)); obtain ⟨v0, v1, v2, v3, v4, v5⟩ := J3.out.st.cells)
            | (refine step_gen 23 26 (.agg #[.int .i64 0, .int .i64 0, .int .i64 0, .slice none 0 0, .slice none 0 0, .slice none 0 0]) 96 6 latL6.und latL6.info latL6.cells (by decide) (by kernel_rfl) (.tmp 65) (.tmp 70) (by kernel_rfl) (v := .slice po j pc) (by kernel_rfl) J3.out.par (by have := J3.out.st.hp; omega) (vx := .slice (some ⟨w2.heap.size, 0, none⟩) 1 1) (by kernel_rfl) (src_lat w2 ⟨u.k, u.lo, u.hi, .slice a2 u.ns.length ac2, .slice b2 u.ps.length bc2, .slice c2 u.rs.length cc2⟩ ⟨rfl, rfl, rfl⟩) (by omega) (by omega) ?_; intro ao cap w4 ga; have J5 := hid_of (J3.out.part HU.out X3.out ga); have B4 := hid_of (J3.out.st.bel (ga_bel ga J3.out.par (by have := J3.out.st.hp; omega)) (by omega)); obtain ⟨u0, u1, u2, u3, u4, u5⟩ := B4.out.cells; have f3 := B4.out.free 4; clear ga))
        all_goals go_wp2
        all_goals go_roundw
        all_goals first
          | (exact ⟨j + 1, _, _, _, _, _, by omega, by go_num, hid_of (by rw [← HNX.out]; exact J5.out)⟩)
          | (simp [intOf]; omega)
    · have hdd2 : decide (j < cn) = false := by simp; omega
      obtain rfl : cn = j := by omega
      have HF : Hid (LP b g d w w1.heap.size ns ps ns.length ps.length no nc po pc qs s3 wr) := hid_of (by
        have h1 := hk.out
        obtain ⟨e1, e2⟩ := HN.out
        rw [← HS3.out] at h1
        rw [e2, ← e1]
        exact h1)
      obtain ⟨y0, y1, y2, y3, y4, y5⟩ := hk.out.st.cells
      have HNL : Hid (ns.length ≤ 1000) := hid_of (by have := HN.out.1; omega)
      go_wp2_with (refine wpList_store_row rfl 26 (.tmp 4) (.tmp 108) rfl w.heap.size #[.int .i64 6, .int .i64 0, .int .i64 0, .slice no cn nc, .slice po cn pc, .slice none 0 0] rfl rfl 26 _ HF.out.st.res infoLat rfl (by simp [Value.oneCell']) ?_)
      refine bodyPost_ret (results_cell_row rfl _ _ w.heap.size 26 #[.int .i64 6, .int .i64 0, .int .i64 0, .slice no cn nc, .slice po cn pc, .slice none 0 0] (0, 0) _ rfl (setRow_heap _ _ _ _ _ _ HF.out.st.res) Try.underlying26 rfl infoLat) rfl ?_
      exact RS.fin (t := ⟨6, 0, 0, ns, ps, []⟩) HF.out.st ⟨⟨by simp only [Lat.k]; omega, by simp only [Lat.k]; omega⟩, ⟨by simp only [Lat.lo]; omega, by simp only [Lat.lo]; omega⟩, ⟨by simp only [Lat.hi]; omega, by simp only [Lat.hi]; omega⟩⟩ HON.out (fun y hy => by simp [Lat.rs] at hy) (HF.out.fin HNL.out).1 (HF.out.fin HNL.out).2 (rus_nil _ _) _ (by
        show _ = Ending.returned (.agg #[.int .i64 6, .int .i64 0, .int .i64 0, .slice no ns.length nc, .slice po ps.length pc, .slice none 0 0])
        rw [HN.out.2, ← HN.out.1])
end
/-- read, whatever the Reader holds. -/
theorem read_all (b g : Nat) (d : List Int) : ∀ n dep : Nat, n + dep = 7 → 1 ≤ dep → RQ b g d n dep
  | 0, dep, h, h1 => fun s w hs => rq_deep b g dep d s w (by omega) hs
  | n + 1, dep, h, h1 => fun s w hs => by
    have IH := read_all b g d n (dep + 1) (by omega) (by omega)
    have hd : 1 ≤ dep ∧ dep ≤ 6 := by omega
    by_cases hk : 10 < (Wr.uR d s).1
    · rw [show rdF d (n + 1) s = (⟨0, 0, 0, [], [], []⟩, none) by rw [rdF, if_pos hk]]
      exact rq_kind b g dep d s w hd hs hk
    · have hc : (Wr.uR d s).1 = 0 ∨ (Wr.uR d s).1 = 1 ∨ (Wr.uR d s).1 = 2 ∨ (Wr.uR d s).1 = 3 ∨ (Wr.uR d s).1 = 4 ∨ (Wr.uR d s).1 = 5 ∨ (Wr.uR d s).1 = 6 ∨ (Wr.uR d s).1 = 7 ∨ (Wr.uR d s).1 = 8 ∨ (Wr.uR d s).1 = 9 ∨ (Wr.uR d s).1 = 10 := by omega
      rcases hc with e | e | e | e | e | e | e | e | e | e | e
      · exact rq_0 b g n dep d s w hd hs e
      · exact rq_1 b g n dep d s w hd hs e
      · exact rq_2 b g n dep d s w hd hs e
      · exact rq_3 b g n dep d s w hd hs e
      · exact rq_4 b g n dep d s w hd hs e
      · exact rq_5 b g n dep d s w hd hs e IH
      · exact rq_6 b g n dep d s w hd hs e IH
      · exact rq_7 b g n dep d s w hd hs e IH
      · exact rq_8 b g n dep d s w hd hs e
      · exact rq_9 b g n dep d s w hd hs e
      · exact rq_10 b g n dep d s w hd hs e
end Go.Proofs.Ytcjnmgokddfidaa

/- Decode of package lattice, of whatever bytes. Bounds on sizes alone. -/
namespace Go.Proofs.Ytcjnmgokddfidaa
open Go.RowKit
set_option maxRecDepth 100000

theorem lo_of_ls {S : Nat → Prop} {w : World} {k lo hi : Int} {an : Option Addr} {nn cn : Nat} {ap : Option Addr} {np cp : Nat} {ar : Option Addr} {nr cr : Nat} {t : Lat} (h : LS S w ⟨k, lo, hi, .slice an nn cn, .slice ap np cp, .slice ar nr cr⟩ t) : LO w k lo hi an nn cn ap np cp ar nr cr t := by
  obtain ⟨k', lo', hi', an', nn', cn', ap', np', cp', ar', nr', cr', e, H⟩ := h.ld.open
  simp only [LX.mk.injEq, Value.slice.injEq] at e
  obtain ⟨rfl, rfl, rfl, ⟨rfl, rfl, rfl⟩, ⟨rfl, rfl, rfl⟩, rfl, rfl, rfl⟩ := e
  exact H
/-- What Decode gives. -/
def DcP (t : Lat) (w : World) (e : Ending) (w' : World) : Prop := ∃ (xo : Option Addr) (xc : Nat) (yo : Option Addr) (yc : Nat) (zo : Option Addr) (zc : Nat), e = .returned (.tuple #[.agg #[.int .i64 t.k, .int .i64 t.lo, .int .i64 t.hi, .slice xo t.ns.length xc, .slice yo t.ps.length yc, .slice zo t.rs.length zc], .int .i64 0]) ∧
  LO w' t.k t.lo t.hi xo t.ns.length xc yo t.ps.length yc zo t.rs.length zc t ∧ Below w.heap.size w w'
/-- What Decode gives where it refuses. -/
def DnP (w : World) (e : Ending) (w' : World) : Prop := e = .returned (.tuple #[.agg #[.int .i64 0, .int .i64 0, .int .i64 0, .slice none 0 0, .slice none 0 0, .slice none 0 0], .int .i64 2]) ∧ Below w.heap.size w w'
set_option maxHeartbeats 3200000 in
theorem decode_good (d : List Int) (t : Lat) (s : Option Nat) (hrd : rdF d 6 (some 0) = (t, s)) (he : Wr.eR d s = 0) (hchk : chkL t = 0) (ao : Option Addr) (cap : Nat) (w : World) (hr : ∀ x ∈ d, 0 ≤ x ∧ x ≤ 255) (hl : d.length ≤ 140737488351232)
    (hpos : 0 < d.length → ∃ ad, ao = some ad ∧ ∀ w', Below w.heap.size w w' → ∀ j v, (Wr.bs d)[j]? = some v → w'.cell? (ad.add j) = some v) :
    Calls Try.prog 9 #[.slice ao d.length cap] w (DcP t w) := by
  have RD : Hid (∀ b g w2, Wr.Rst w2 b g d 0 0 0 → Calls Try.prog 24 #[.pointer (some ⟨b, 0, none⟩), .int .i64 1] w2 (RdP b g d t s w2)) := hid_of (fun b g w2 h => by
    have h1 := read_all b g d 6 1 (by omega) (by omega) (some 0) w2 ⟨0, Nat.zero_le _, h⟩
    rw [hrd] at h1
    exact h1)
  have HBW := hid_of (bel_alloc w (.cells #[.int .i64 0, .int .i64 0, .int .i64 0, .slice none 0 0, .slice none 0 0, .slice none 0 0] 26))
  have NR := hid_of (Wr.newReader_any ao d cap (w.alloc (.cells #[.int .i64 0, .int .i64 0, .int .i64 0, .slice none 0 0, .slice none 0 0, .slice none 0 0] 26)) hr hl (fun h0 => by obtain ⟨ad, e, hc⟩ := hpos h0; exact ⟨ad, e, hc _ HBW.out⟩))
  have EN : Hid (∀ b g wa w3, RG b g d wa w3 s → Calls Try.prog 25 #[.pointer (some ⟨b, 0, none⟩)] w3 fun e w' => e = .returned (.int .i64 0) ∧ ∃ m, w' = w3.drewN m) := hid_of (fun b g wa w3 h => by
    have h1 := Wr.eR_any b g d s w3 h.st
    rw [he] at h1
    exact h1)
  have CH : Hid (∀ xo xc yo yc zo zc W, LO W t.k t.lo t.hi xo t.ns.length xc yo t.ps.length yc zo t.rs.length zc t → Calls Try.prog 13 #[.agg #[.int .i64 t.k, .int .i64 t.lo, .int .i64 t.hi, .slice xo t.ns.length xc, .slice yo t.ps.length yc, .slice zo t.rs.length zc]] W (ErP 0 W)) := hid_of (fun xo xc yo yc zo zc W H => by
    have := check_any _ t.k t.lo t.hi xo t.ns.length xc yo t.ps.length yc zo t.rs.length zc W H
    rwa [hchk] at this)
  clear hr hpos hrd he hchk
  go_enter Try.func9, Try.ntmps9
  go_wp2_with (first
    | (go_at_call 23; ((with_reducible refine (NR.out).mono ?_); (rintro e w1 ⟨b, g, rfl, q1, q2, q3, q4⟩); (have R1 := hid_of q1); (have B1 := hid_of q2); (have B3 := hid_of (And.intro q3 q4)); (have Z1 : Hid (w1.heap[w.heap.size]? = some (.cells [.int .i64 0, .int .i64 0, .int .i64 0, .slice none 0 0, .slice none 0 0, .slice none 0 0].toArray 26 (0, 0))) := hid_of ((q2.block _ (by simp)).trans (heap_alloc_new w _))); clear q1 q2 q3 q4))
    | (go_at_call 24; ((with_reducible refine (RD.out b g w1 R1.out).mono ?_); (rintro e w2 ⟨xo, xc, yo, yc, zo, zc, rfl, q1, q2⟩); (have L2 := hid_of q1); (have K2 := hid_of q2); (have K3 := hid_of (q2.alloc (.cells #[.int .i64 t.k, .int .i64 t.lo, .int .i64 t.hi, .slice xo t.ns.length xc, .slice yo t.ps.length yc, .slice zo t.rs.length zc] 26))); clear q1 q2))
    | (go_at_call 25; ((with_reducible refine (EN.out b g w1 _ K3.out).mono ?_); (rintro e w3 ⟨rfl, m, rfl⟩); (have L4 := hid_of (lo_of_ls (L2.out.keep (w' := (w2.alloc (.cells #[.int .i64 t.k, .int .i64 t.lo, .int .i64 t.hi, .slice xo t.ns.length xc, .slice yo t.ps.length yc, .slice zo t.rs.length zc] 26)).drewN m) (keeps_alloc _ w2 _))))))
    | (go_at_call 13; ((with_reducible refine (CH.out xo xc yo yc zo zc _ L4.out).mono ?_); (rintro e w4 ⟨rfl, q1⟩); (have M5 := hid_of ((L2.out.keep (w' := (w2.alloc (.cells #[.int .i64 t.k, .int .i64 t.lo, .int .i64 t.hi, .slice xo t.ns.length xc, .slice yo t.ps.length yc, .slice zo t.rs.length zc] 26)).drewN m) (keeps_alloc _ w2 _)).keep (w' := w4) ⟨q1.size, fun k _ hk => q1.block k hk⟩)); (have B4 : Hid (Below (w2.alloc (.cells #[.int .i64 t.k, .int .i64 t.lo, .int .i64 t.hi, .slice xo t.ns.length xc, .slice yo t.ps.length yc, .slice zo t.rs.length zc] 26)).heap.size (w2.alloc (.cells #[.int .i64 t.k, .int .i64 t.lo, .int .i64 t.hi, .slice xo t.ns.length xc, .slice yo t.ps.length yc, .slice zo t.rs.length zc] 26)) w4) := hid_of ⟨q1.os, q1.tape, q1.output, q1.size, q1.block⟩); (have Z4 : Hid (w4.heap[w.heap.size]? = some (.cells [.int .i64 0, .int .i64 0, .int .i64 0, .slice none 0 0, .slice none 0 0, .slice none 0 0].toArray 26 (0, 0))) := hid_of ((B4.out.block _ (by have := K2.out.size; have := B1.out.size; simp at *; omega)).trans (((bel_alloc w2 _).block _ (by have := K2.out.size; have := B1.out.size; simp at *; omega)).trans ((K2.out.blk (by have := B1.out.size; simp at *; omega) (by have := B3.out; simp at *; omega)).trans Z1.out)))); (obtain ⟨y0, y1, y2, y3, y4, y5⟩ := box6 t.k t.lo t.hi xo t.ns.length xc yo t.ps.length yc zo t.rs.length zc B4.out); clear q1))
    | (refine wpList_store_row rfl 26 (.tmp 2) (.tmp 19) rfl w.heap.size #[.int .i64 t.k, .int .i64 t.lo, .int .i64 t.hi, .slice xo t.ns.length xc, .slice yo t.ps.length yc, .slice zo t.rs.length zc] rfl rfl 26 _ Z4.out infoLat rfl (by simp [Value.oneCell']) ?_))
  refine bodyPost_ret (res_ct rfl w.heap.size rfl (setRow_heap _ _ _ #[.int .i64 t.k, .int .i64 t.lo, .int .i64 t.hi, .slice xo t.ns.length xc, .slice yo t.ps.length yc, .slice zo t.rs.length zc] _ _ Z4.out) Try.underlying26 rfl infoLat) rfl ⟨xo, xc, yo, yc, zo, zc, rfl, ?_, ?_⟩
  · exact lo_of_ls (M5.out.keep ⟨by simp [World.setRow], fun k hk _ => setRow_other _ _ _ _ (by have := hk.1; have := B1.out.size; simp at this; omega)⟩)
  · have x1 : Below w.heap.size w w1 := HBW.out.trans (B1.out.mono (by simp))
    have x2 : Below w.heap.size w w2 := x1.trans ⟨K2.out.kept.os, K2.out.kept.tape, K2.out.kept.output, K2.out.size, fun k hk => K2.out.blk (by have := x1.size; omega) (by have := B3.out; simp at this; omega)⟩
    exact below_setRow ((x2.trans ((bel_alloc w2 _).mono x2.size)).trans (B4.out.mono (by have := x2.size; simp; omega))) (Nat.le_refl _) _
set_option maxHeartbeats 3200000 in
theorem decode_bad1 (d : List Int) (t : Lat) (s : Option Nat) (hrd : rdF d 6 (some 0) = (t, s)) (he : Wr.eR d s = 2) (ao : Option Addr) (cap : Nat) (w : World) (hr : ∀ x ∈ d, 0 ≤ x ∧ x ≤ 255) (hl : d.length ≤ 140737488351232)
    (hpos : 0 < d.length → ∃ ad, ao = some ad ∧ ∀ w', Below w.heap.size w w' → ∀ j v, (Wr.bs d)[j]? = some v → w'.cell? (ad.add j) = some v) :
    Calls Try.prog 9 #[.slice ao d.length cap] w (DnP w) := by
  have RD : Hid (∀ b g w2, Wr.Rst w2 b g d 0 0 0 → Calls Try.prog 24 #[.pointer (some ⟨b, 0, none⟩), .int .i64 1] w2 (RdP b g d t s w2)) := hid_of (fun b g w2 h => by
    have h1 := read_all b g d 6 1 (by omega) (by omega) (some 0) w2 ⟨0, Nat.zero_le _, h⟩
    rw [hrd] at h1
    exact h1)
  have HBW := hid_of (bel_alloc w (.cells #[.int .i64 0, .int .i64 0, .int .i64 0, .slice none 0 0, .slice none 0 0, .slice none 0 0] 26))
  have NR := hid_of (Wr.newReader_any ao d cap (w.alloc (.cells #[.int .i64 0, .int .i64 0, .int .i64 0, .slice none 0 0, .slice none 0 0, .slice none 0 0] 26)) hr hl (fun h0 => by obtain ⟨ad, e, hc⟩ := hpos h0; exact ⟨ad, e, hc _ HBW.out⟩))
  have EN : Hid (∀ b g wa w3, RG b g d wa w3 s → Calls Try.prog 25 #[.pointer (some ⟨b, 0, none⟩)] w3 fun e w' => e = .returned (.int .i64 2) ∧ ∃ m, w' = w3.drewN m) := hid_of (fun b g wa w3 h => by
    have h1 := Wr.eR_any b g d s w3 h.st
    rw [he] at h1
    exact h1)
  clear hr hpos hrd he
  go_enter Try.func9, Try.ntmps9
  go_wp2_with (first
    | (go_at_call 23; ((with_reducible refine (NR.out).mono ?_); (rintro e w1 ⟨b, g, rfl, q1, q2, q3, q4⟩); (have R1 := hid_of q1); (have B1 := hid_of q2); (have B3 := hid_of (And.intro q3 q4)); (have Z1 : Hid (w1.heap[w.heap.size]? = some (.cells [.int .i64 0, .int .i64 0, .int .i64 0, .slice none 0 0, .slice none 0 0, .slice none 0 0].toArray 26 (0, 0))) := hid_of ((q2.block _ (by simp)).trans (heap_alloc_new w _))); clear q1 q2 q3 q4))
    | (go_at_call 24; ((with_reducible refine (RD.out b g w1 R1.out).mono ?_); (rintro e w2 ⟨xo, xc, yo, yc, zo, zc, rfl, q1, q2⟩); (have L2 := hid_of q1); (have K2 := hid_of q2); (have K3 := hid_of (q2.alloc (.cells #[.int .i64 t.k, .int .i64 t.lo, .int .i64 t.hi, .slice xo t.ns.length xc, .slice yo t.ps.length yc, .slice zo t.rs.length zc] 26))); clear q1 q2))
    | (go_at_call 25; ((with_reducible refine (EN.out b g w1 _ K3.out).mono ?_); (rintro e w3 ⟨rfl, m, rfl⟩); (have Z4 : Hid (((w2.alloc (.cells #[.int .i64 t.k, .int .i64 t.lo, .int .i64 t.hi, .slice xo t.ns.length xc, .slice yo t.ps.length yc, .slice zo t.rs.length zc] 26)).drewN m).heap[w.heap.size]? = some (.cells [.int .i64 0, .int .i64 0, .int .i64 0, .slice none 0 0, .slice none 0 0, .slice none 0 0].toArray 26 (0, 0))) := hid_of (((bel_alloc w2 _).block _ (by have := K2.out.size; have := B1.out.size; simp at *; omega)).trans ((K2.out.blk (by have := B1.out.size; simp at *; omega) (by have := B3.out; simp at *; omega)).trans Z1.out)))))
    | (refine wpList_store_row rfl 26 (.tmp 2) (.tmp 18) rfl w.heap.size #[.int .i64 0, .int .i64 0, .int .i64 0, .slice none 0 0, .slice none 0 0, .slice none 0 0] rfl rfl 26 _ Z4.out infoLat rfl (by simp [Value.oneCell']) ?_))
  refine bodyPost_ret (res_ct rfl w.heap.size rfl (setRow_heap _ _ _ #[.int .i64 0, .int .i64 0, .int .i64 0, .slice none 0 0, .slice none 0 0, .slice none 0 0] _ _ Z4.out) Try.underlying26 rfl infoLat) rfl ⟨rfl, ?_⟩
  have x1 : Below w.heap.size w w1 := HBW.out.trans (B1.out.mono (by simp))
  have x2 : Below w.heap.size w w2 := x1.trans ⟨K2.out.kept.os, K2.out.kept.tape, K2.out.kept.output, K2.out.size, fun k hk => K2.out.blk (by have := x1.size; omega) (by have := B3.out; simp at this; omega)⟩
  exact below_setRow (bel_drewN (x2.trans ((bel_alloc w2 _).mono x2.size)) m) (Nat.le_refl _) _
set_option maxHeartbeats 3200000 in
theorem decode_bad2 (d : List Int) (t : Lat) (s : Option Nat) (hrd : rdF d 6 (some 0) = (t, s)) (he : Wr.eR d s = 0) (hchk : chkL t ≠ 0) (ao : Option Addr) (cap : Nat) (w : World) (hr : ∀ x ∈ d, 0 ≤ x ∧ x ≤ 255) (hl : d.length ≤ 140737488351232)
    (hpos : 0 < d.length → ∃ ad, ao = some ad ∧ ∀ w', Below w.heap.size w w' → ∀ j v, (Wr.bs d)[j]? = some v → w'.cell? (ad.add j) = some v) :
    Calls Try.prog 9 #[.slice ao d.length cap] w (DnP w) := by
  have RD : Hid (∀ b g w2, Wr.Rst w2 b g d 0 0 0 → Calls Try.prog 24 #[.pointer (some ⟨b, 0, none⟩), .int .i64 1] w2 (RdP b g d t s w2)) := hid_of (fun b g w2 h => by
    have h1 := read_all b g d 6 1 (by omega) (by omega) (some 0) w2 ⟨0, Nat.zero_le _, h⟩
    rw [hrd] at h1
    exact h1)
  have HBW := hid_of (bel_alloc w (.cells #[.int .i64 0, .int .i64 0, .int .i64 0, .slice none 0 0, .slice none 0 0, .slice none 0 0] 26))
  have NR := hid_of (Wr.newReader_any ao d cap (w.alloc (.cells #[.int .i64 0, .int .i64 0, .int .i64 0, .slice none 0 0, .slice none 0 0, .slice none 0 0] 26)) hr hl (fun h0 => by obtain ⟨ad, e, hc⟩ := hpos h0; exact ⟨ad, e, hc _ HBW.out⟩))
  have EN : Hid (∀ b g wa w3, RG b g d wa w3 s → Calls Try.prog 25 #[.pointer (some ⟨b, 0, none⟩)] w3 fun e w' => e = .returned (.int .i64 0) ∧ ∃ m, w' = w3.drewN m) := hid_of (fun b g wa w3 h => by
    have h1 := Wr.eR_any b g d s w3 h.st
    rw [he] at h1
    exact h1)
  obtain ⟨r, hr2⟩ : ∃ r, r = chkL t := ⟨_, rfl⟩
  rw [← hr2] at hchk
  have e0 : (r == 0) = false := beq_eq_false_iff_ne.2 hchk
  have e0' : (r != 0) = true := bne_iff_ne.2 hchk
  have CH : Hid (∀ xo xc yo yc zo zc W, LO W t.k t.lo t.hi xo t.ns.length xc yo t.ps.length yc zo t.rs.length zc t → Calls Try.prog 13 #[.agg #[.int .i64 t.k, .int .i64 t.lo, .int .i64 t.hi, .slice xo t.ns.length xc, .slice yo t.ps.length yc, .slice zo t.rs.length zc]] W (ErP r W)) := hid_of (fun xo xc yo yc zo zc W H => by
    have := check_any _ t.k t.lo t.hi xo t.ns.length xc yo t.ps.length yc zo t.rs.length zc W H
    rwa [← hr2] at this)
  clear hr hpos hrd he hchk hr2
  go_enter Try.func9, Try.ntmps9
  go_wp2_with (first
    | (go_at_call 23; ((with_reducible refine (NR.out).mono ?_); (rintro e w1 ⟨b, g, rfl, q1, q2, q3, q4⟩); (have R1 := hid_of q1); (have B1 := hid_of q2); (have B3 := hid_of (And.intro q3 q4)); (have Z1 : Hid (w1.heap[w.heap.size]? = some (.cells [.int .i64 0, .int .i64 0, .int .i64 0, .slice none 0 0, .slice none 0 0, .slice none 0 0].toArray 26 (0, 0))) := hid_of ((q2.block _ (by simp)).trans (heap_alloc_new w _))); clear q1 q2 q3 q4))
    | (go_at_call 24; ((with_reducible refine (RD.out b g w1 R1.out).mono ?_); (rintro e w2 ⟨xo, xc, yo, yc, zo, zc, rfl, q1, q2⟩); (have L2 := hid_of q1); (have K2 := hid_of q2); (have K3 := hid_of (q2.alloc (.cells #[.int .i64 t.k, .int .i64 t.lo, .int .i64 t.hi, .slice xo t.ns.length xc, .slice yo t.ps.length yc, .slice zo t.rs.length zc] 26))); clear q1 q2))
    | (go_at_call 25; ((with_reducible refine (EN.out b g w1 _ K3.out).mono ?_); (rintro e w3 ⟨rfl, m, rfl⟩); (have L4 := hid_of (lo_of_ls (L2.out.keep (w' := (w2.alloc (.cells #[.int .i64 t.k, .int .i64 t.lo, .int .i64 t.hi, .slice xo t.ns.length xc, .slice yo t.ps.length yc, .slice zo t.rs.length zc] 26)).drewN m) (keeps_alloc _ w2 _))))))
    | (go_at_call 13; ((with_reducible refine (CH.out xo xc yo yc zo zc _ L4.out).mono ?_); (rintro e w4 ⟨rfl, q1⟩); (have M5 := hid_of ((L2.out.keep (w' := (w2.alloc (.cells #[.int .i64 t.k, .int .i64 t.lo, .int .i64 t.hi, .slice xo t.ns.length xc, .slice yo t.ps.length yc, .slice zo t.rs.length zc] 26)).drewN m) (keeps_alloc _ w2 _)).keep (w' := w4) ⟨q1.size, fun k _ hk => q1.block k hk⟩)); (have B4 : Hid (Below (w2.alloc (.cells #[.int .i64 t.k, .int .i64 t.lo, .int .i64 t.hi, .slice xo t.ns.length xc, .slice yo t.ps.length yc, .slice zo t.rs.length zc] 26)).heap.size (w2.alloc (.cells #[.int .i64 t.k, .int .i64 t.lo, .int .i64 t.hi, .slice xo t.ns.length xc, .slice yo t.ps.length yc, .slice zo t.rs.length zc] 26)) w4) := hid_of ⟨q1.os, q1.tape, q1.output, q1.size, q1.block⟩); (have Z4 : Hid (w4.heap[w.heap.size]? = some (.cells [.int .i64 0, .int .i64 0, .int .i64 0, .slice none 0 0, .slice none 0 0, .slice none 0 0].toArray 26 (0, 0))) := hid_of ((B4.out.block _ (by have := K2.out.size; have := B1.out.size; simp at *; omega)).trans (((bel_alloc w2 _).block _ (by have := K2.out.size; have := B1.out.size; simp at *; omega)).trans ((K2.out.blk (by have := B1.out.size; simp at *; omega) (by have := B3.out; simp at *; omega)).trans Z1.out)))); (obtain ⟨y0, y1, y2, y3, y4, y5⟩ := box6 t.k t.lo t.hi xo t.ns.length xc yo t.ps.length yc zo t.rs.length zc B4.out); clear q1))
    | (refine wpList_store_row rfl 26 (.tmp 2) (.tmp 18) rfl w.heap.size #[.int .i64 0, .int .i64 0, .int .i64 0, .slice none 0 0, .slice none 0 0, .slice none 0 0] rfl rfl 26 _ Z4.out infoLat rfl (by simp [Value.oneCell']) ?_))
  refine bodyPost_ret (res_ct rfl w.heap.size rfl (setRow_heap _ _ _ #[.int .i64 0, .int .i64 0, .int .i64 0, .slice none 0 0, .slice none 0 0, .slice none 0 0] _ _ Z4.out) Try.underlying26 rfl infoLat) rfl ⟨rfl, ?_⟩
  have x1 : Below w.heap.size w w1 := HBW.out.trans (B1.out.mono (by simp))
  have x2 : Below w.heap.size w w2 := x1.trans ⟨K2.out.kept.os, K2.out.kept.tape, K2.out.kept.output, K2.out.size, fun k hk => K2.out.blk (by have := x1.size; omega) (by have := B3.out; simp at this; omega)⟩
  exact below_setRow ((x2.trans ((bel_alloc w2 _).mono x2.size)).trans (B4.out.mono (by have := x2.size; simp; omega))) (Nat.le_refl _) _
end Go.Proofs.Ytcjnmgokddfidaa

/- The reference: Equal. Bounds on sizes alone. -/
namespace Go.Proofs.Ytcjnmgokddfidaa
open Go.RowKit

set_option maxRecDepth 100000 in
set_option maxHeartbeats 3200000 in
theorem rnames_q (l m : List Str) (ao bo : Option Addr) (n n2 cap cap2 : Nat) (w : World) (R1 : Rd w (.slice ao n cap) (ss l)) (R2 : Rd w (.slice bo n2 cap2) (ss m)) :
    Calls Try.prog 30 #[.slice ao n cap, .slice bo n2 cap2] w (fun e w' => e = .returned (.bool (decide (l = m))) ∧ ∃ m, w' = w.drewN m) := by
  obtain ⟨hn, _, hcap, h3⟩ := rds_open R1
  obtain ⟨hn2, _, hcap2, k3⟩ := rds_open R2
  obtain ⟨r, hr⟩ : ∃ r, r = decide (l = m) := ⟨_, rfl⟩
  rw [← hr]
  have HR := hid_of hr
  clear hr R1 R2
  by_cases hnn : n = n2
  case neg =>
    have RF : Hid (false = r) := hid_of (by rw [HR.out]; exact (decide_eq_false (fun h => hnn (by rw [hn, hn2, h]))).symm)
    have e1 : (n == n2) = false := beq_eq_false_iff_ne.2 hnn
    have e2 : ((n : Int) == (n2 : Int)) = false := beq_eq_false_iff_ne.2 (by omega)
    have e3 : ((n : Int) != (n2 : Int)) = true := bne_iff_ne.2 (by omega)
    clear hnn hn hn2 h3 k3
    go_enter Try.func30, Try.ntmps30
    go_wp2
    go_ret
    exact ⟨ret_b RF.out, 0, rfl⟩
  subst hnn
  have HN := hid_of hn
  have HN2 := hid_of hn2
  have H3 := hid_of h3
  have K3 := hid_of k3
  clear hn hn2 h3 k3
  go_enter Try.func30, Try.ntmps30
  go_wp2
  go_loopw [5] (fun iv wr => ∃ i : Nat, iv = .int .i64 i ∧ i ≤ n ∧ Hid (∀ j, j < i → l[j]? = m[j]?) ∧ Hid (∃ m, wr = w.drewN m)) (fun iv _ => n - (intOf iv).toNat)
  case atStart => exact ⟨0, rfl, Nat.zero_le _, hid_of (fun j h => absurd h (Nat.not_lt_zero j)), hid_of ⟨0, rfl⟩⟩
  case round =>
    obtain ⟨i, rfl, hi, HM, hb⟩ := hrel
    by_cases hlt : i < n
    · have d1 : decide (i < n) = true := decide_eq_true hlt
      have hlt' : (i : Int) < (n : Int) := by omega
      have HLT := hid_of hlt
      have hl : i < l.length := by have := HN.out; omega
      have hm : i < m.length := by have := HN2.out; omega
      rcases H3.out with h3 | ⟨g, o, rfl, hg, hc⟩
      · exfalso; rw [h3] at hl; simp at hl
      rcases K3.out with k3 | ⟨g2, o2, rfl, hg2, hc2⟩
      · exfalso; rw [k3] at hm; simp at hm
      have hbb : Below w.heap.size w wr := by obtain ⟨md, hmd⟩ := hb.out; rw [hmd]; exact bel_drewN (Below.refl _ _) md
      have c1 := (hbb.cell (p := ⟨g, o + i, none⟩) hg).trans (hc i _ (List.getElem?_eq_getElem hl))
      have c2 := (hbb.cell (p := ⟨g2, o2 + i, none⟩) hg2).trans (hc2 i _ (List.getElem?_eq_getElem hm))
      obtain ⟨bx, hx⟩ : ∃ bx, bx = ba l[i] := ⟨_, rfl⟩
      obtain ⟨by', hy⟩ : ∃ by', by' = ba m[i] := ⟨_, rfl⟩
      rw [← hx] at c1
      rw [← hy] at c2
      by_cases he : l[i] = m[i]
      · have et := eq_t hx hy he
        have HE : Hid (∀ j, j < i + 1 → l[j]? = m[j]?) := hid_of (fun j hj => by
          by_cases e : j = i
          · subst e; rw [List.getElem?_eq_getElem hl, List.getElem?_eq_getElem hm, he]
          · exact HM.out j (by omega))
        clear hbb hlt hc hc2 hx hy he hl hm H3 K3 hg hg2 HM
        go_wp2
        go_quiet (fail)
        go_wp2
        go_roundw
        case rel => exact ⟨i + 1, by go_num, HLT.out, HE, hid_of (by obtain ⟨md, hmd⟩ := hb.out; exact ⟨md + nq, by rw [hmd, World.drewN_drewN]⟩)⟩
        case measure => have := HLT.out; simp [intOf]; omega
      · have et := eq_f hx hy he
        have RF : Hid (false = r) := hid_of (by
          rw [HR.out]
          refine (decide_eq_false fun h => he ?_).symm
          subst h; rfl)
        clear hbb hlt hc hc2 hx hy he hl hm H3 K3 hg hg2 HM
        go_wp2
        go_quiet (fail)
        go_wp2
        go_ret
        exact ⟨ret_b RF.out, by obtain ⟨md, hmd⟩ := hb.out; exact ⟨md + nq, by rw [hmd, World.drewN_drewN]⟩⟩
    · have d1 : decide (i < n) = false := decide_eq_false hlt
      have RT : Hid (true = r) := hid_of (by
        rw [HR.out]
        refine (decide_eq_true ?_).symm
        refine List.ext_getElem? fun j => ?_
        by_cases hj : j < n
        · exact HM.out j (by omega)
        · rw [List.getElem?_eq_none (by have := HN.out; omega), List.getElem?_eq_none (by have := HN2.out; omega)])
      go_wp2
      go_ret
      exact ⟨ret_b RT.out, hb.out⟩

theorem two_box {w w' : World} (kA loA hiA : Int) (anA : Option Addr) (nnA cnA : Nat) (apA : Option Addr) (npA cpA : Nat) (arA : Option Addr) (nrA crA : Nat) (kB loB hiB : Int) (anB : Option Addr) (nnB cnB : Nat) (apB : Option Addr) (npB cpB : Nat) (arB : Option Addr) (nrB crB : Nat) (h : Below ((w.alloc (.cells #[.int .i64 kA, .int .i64 loA, .int .i64 hiA, .slice anA nnA cnA, .slice apA npA cpA, .slice arA nrA crA] 26)).alloc (.cells #[.int .i64 kB, .int .i64 loB, .int .i64 hiB, .slice anB nnB cnB, .slice apB npB cpB, .slice arB nrB crB] 26)).heap.size ((w.alloc (.cells #[.int .i64 kA, .int .i64 loA, .int .i64 hiA, .slice anA nnA cnA, .slice apA npA cpA, .slice arA nrA crA] 26)).alloc (.cells #[.int .i64 kB, .int .i64 loB, .int .i64 hiB, .slice anB nnB cnB, .slice apB npB cpB, .slice arB nrB crB] 26)) w') : w'.cell? ⟨w.heap.size, 0, none⟩ = some (.int .i64 kA) ∧ w'.cell? ⟨w.heap.size, 1, none⟩ = some (.int .i64 loA) ∧ w'.cell? ⟨w.heap.size, 2, none⟩ = some (.int .i64 hiA) ∧ w'.cell? ⟨w.heap.size, 3, none⟩ = some (.slice anA nnA cnA) ∧ w'.cell? ⟨w.heap.size, 4, none⟩ = some (.slice apA npA cpA) ∧ w'.cell? ⟨w.heap.size, 5, none⟩ = some (.slice arA nrA crA) ∧
    w'.cell? ⟨w.heap.size + 1, 0, none⟩ = some (.int .i64 kB) ∧ w'.cell? ⟨w.heap.size + 1, 1, none⟩ = some (.int .i64 loB) ∧ w'.cell? ⟨w.heap.size + 1, 2, none⟩ = some (.int .i64 hiB) ∧ w'.cell? ⟨w.heap.size + 1, 3, none⟩ = some (.slice anB nnB cnB) ∧ w'.cell? ⟨w.heap.size + 1, 4, none⟩ = some (.slice apB npB cpB) ∧ w'.cell? ⟨w.heap.size + 1, 5, none⟩ = some (.slice arB nrB crB) := by
  obtain ⟨b1, b2⟩ := two_new w (.cells #[.int .i64 kA, .int .i64 loA, .int .i64 hiA, .slice anA nnA cnA, .slice apA npA cpA, .slice arA nrA crA] 26) (.cells #[.int .i64 kB, .int .i64 loB, .int .i64 hiB, .slice anB nnB cnB, .slice apB npB cpB, .slice arB nrB crB] 26)
  exact ⟨blk_kept (cs := [.int .i64 kA, .int .i64 loA, .int .i64 hiA, .slice anA nnA cnA, .slice apA npA cpA, .slice arA nrA crA]) b1 h rfl, blk_kept (cs := [.int .i64 kA, .int .i64 loA, .int .i64 hiA, .slice anA nnA cnA, .slice apA npA cpA, .slice arA nrA crA]) b1 h rfl, blk_kept (cs := [.int .i64 kA, .int .i64 loA, .int .i64 hiA, .slice anA nnA cnA, .slice apA npA cpA, .slice arA nrA crA]) b1 h rfl, blk_kept (cs := [.int .i64 kA, .int .i64 loA, .int .i64 hiA, .slice anA nnA cnA, .slice apA npA cpA, .slice arA nrA crA]) b1 h rfl, blk_kept (cs := [.int .i64 kA, .int .i64 loA, .int .i64 hiA, .slice anA nnA cnA, .slice apA npA cpA, .slice arA nrA crA]) b1 h rfl, blk_kept (cs := [.int .i64 kA, .int .i64 loA, .int .i64 hiA, .slice anA nnA cnA, .slice apA npA cpA, .slice arA nrA crA]) b1 h rfl, blk_kept (cs := [.int .i64 kB, .int .i64 loB, .int .i64 hiB, .slice anB nnB cnB, .slice apB npB cpB, .slice arB nrB crB]) b2 h rfl, blk_kept (cs := [.int .i64 kB, .int .i64 loB, .int .i64 hiB, .slice anB nnB cnB, .slice apB npB cpB, .slice arB nrB crB]) b2 h rfl, blk_kept (cs := [.int .i64 kB, .int .i64 loB, .int .i64 hiB, .slice anB nnB cnB, .slice apB npB cpB, .slice arB nrB crB]) b2 h rfl, blk_kept (cs := [.int .i64 kB, .int .i64 loB, .int .i64 hiB, .slice anB nnB cnB, .slice apB npB cpB, .slice arB nrB crB]) b2 h rfl, blk_kept (cs := [.int .i64 kB, .int .i64 loB, .int .i64 hiB, .slice anB nnB cnB, .slice apB npB cpB, .slice arB nrB crB]) b2 h rfl, blk_kept (cs := [.int .i64 kB, .int .i64 loB, .int .i64 hiB, .slice anB nnB cnB, .slice apB npB cpB, .slice arB nrB crB]) b2 h rfl⟩
theorem ext_to {α : Type} {l m : List α} {n : Nat} (h1 : n = l.length) (h2 : n = m.length) (h : ∀ j, j < n → l[j]? = m[j]?) : l = m := by
  refine List.ext_getElem? fun j => ?_
  by_cases hj : j < n
  · exact h j hj
  · rw [List.getElem?_eq_none (by omega), List.getElem?_eq_none (by omega)]
set_option maxRecDepth 100000 in
set_option maxHeartbeats 6400000 in
theorem requal_any : ∀ (t u : Lat) (kA loA hiA : Int) (anA : Option Addr) (nnA cnA : Nat) (apA : Option Addr) (npA cpA : Nat) (arA : Option Addr) (nrA crA : Nat) (kB loB hiB : Int) (anB : Option Addr) (nnB cnB : Nat) (apB : Option Addr) (npB cpB : Nat) (arB : Option Addr) (nrB crB : Nat) (w : World), LO w kA loA hiA anA nnA cnA apA npA cpA arA nrA crA t → LO w kB loB hiB anB nnB cnB apB npB cpB arB nrB crB u → Calls Try.prog 11 #[.agg #[.int .i64 kA, .int .i64 loA, .int .i64 hiA, .slice anA nnA cnA, .slice apA npA cpA, .slice arA nrA crA], .agg #[.int .i64 kB, .int .i64 loB, .int .i64 hiB, .slice anB nnB cnB, .slice apB npB cpB, .slice arB nrB crB]] w (BoP (decide (t = u)) w) := by
  refine lat_ind ?_
  intro k' lo' hi' ns' ps' rs' ih u kA loA hiA anA nnA cnA apA npA cpA arA nrA crA kB loB hiB anB nnB cnB apB npB cpB arB nrB crB w H1 H2
  obtain rfl : kA = k' := H1.hk
  obtain rfl : loA = lo' := H1.hlo
  obtain rfl : hiA = hi' := H1.hhi
  obtain ⟨r, hr⟩ : ∃ r, r = decide (Lat.mk kA loA hiA ns' ps' rs' = u) := ⟨_, rfl⟩
  have hr0 := hr
  rw [lat_eq, ← H2.hk, ← H2.hlo, ← H2.hhi] at hr
  rw [← hr0]
  have HR := hid_of hr
  have HBB := hid_of (((Below.refl w.heap.size w).alloc (Nat.le_refl _) (.cells #[.int .i64 kA, .int .i64 loA, .int .i64 hiA, .slice anA nnA cnA, .slice apA npA cpA, .slice arA nrA crA] 26)).alloc (by simp) (.cells #[.int .i64 kB, .int .i64 loB, .int .i64 hiB, .slice anB nnB cnB, .slice apB npB cpB, .slice arB nrB crB] 26))
  have HC := hid_of (fun (w' : World) (h : Below ((w.alloc (.cells #[.int .i64 kA, .int .i64 loA, .int .i64 hiA, .slice anA nnA cnA, .slice apA npA cpA, .slice arA nrA crA] 26)).alloc (.cells #[.int .i64 kB, .int .i64 loB, .int .i64 hiB, .slice anB nnB cnB, .slice apB npB cpB, .slice arB nrB crB] 26)).heap.size ((w.alloc (.cells #[.int .i64 kA, .int .i64 loA, .int .i64 hiA, .slice anA nnA cnA, .slice apA npA cpA, .slice arA nrA crA] 26)).alloc (.cells #[.int .i64 kB, .int .i64 loB, .int .i64 hiB, .slice anB nnB cnB, .slice apB npB cpB, .slice arB nrB crB] 26)) w') => two_box kA loA hiA anA nnA cnA apA npA cpA arA nrA crA kB loB hiB anB nnB cnB apB npB cpB arB nrB crB h)
  have CN := hid_of (fun (wz : World) (hz : Below w.heap.size w wz) => rnames_any ns' u.ns anA anB nnA nnB cnA cnB wz (H1.n.at hz) (H2.n.at hz))
  have L1p := H1.p.len
  have L2p := H2.p.len
  have L1r := H1.r.len
  have L2r := H2.r.len
  have hpA : npA ≤ 9223372036854775807 := by omega
  have hpB : npB ≤ 9223372036854775807 := by omega
  have hrA : nrA ≤ 9223372036854775807 := by omega
  have hrB : nrB ≤ 9223372036854775807 := by omega
  have X1 := hid_of H1
  have X2 := hid_of H2
  have IH := hid_of ih
  obtain ⟨qn, hqn⟩ : ∃ q, q = decide (ns' = u.ns) := ⟨_, rfl⟩
  rw [← hqn] at CN
  have HQN := hid_of hqn
  have HL : Hid (npA = ps'.length ∧ npB = u.ps.length ∧ nrA = rs'.length ∧ nrB = u.rs.length) := hid_of ⟨L1p.1, L2p.1, L1r.1, L2r.1⟩
  clear hr hr0 H1 H2 ih hqn L1p L2p L1r L2r
  by_cases hk : kA = kB
  case neg =>
    have RF : Hid (false = r) := hid_of (by rw [HR.out, decide_eq_false hk]; rfl)
    have e1 : (kA == kB) = false := beq_eq_false_iff_ne.2 hk
    have e1' : (kA != kB) = true := bne_iff_ne.2 hk
    clear hk
    go_enter Try.func11, Try.ntmps11
    go_wp2
    go_ret
    exact ⟨ret_b RF.out, HBB.out⟩
  by_cases hlo : loA = loB
  case neg =>
    have RF : Hid (false = r) := hid_of (by rw [HR.out, decide_eq_false hlo]; simp)
    have e1 : (kA == kB) = true := beq_iff_eq.2 hk
    have e1' : (kA != kB) = false := by simp [hk]
    have e2 : (loA == loB) = false := beq_eq_false_iff_ne.2 hlo
    have e2' : (loA != loB) = true := bne_iff_ne.2 hlo
    clear hk hlo
    go_enter Try.func11, Try.ntmps11
    go_wp2
    go_ret
    exact ⟨ret_b RF.out, HBB.out⟩
  by_cases hhi : hiA = hiB
  case neg =>
    have RF : Hid (false = r) := hid_of (by rw [HR.out, decide_eq_false hhi]; simp)
    have e1 : (kA == kB) = true := beq_iff_eq.2 hk
    have e1' : (kA != kB) = false := by simp [hk]
    have e2 : (loA == loB) = true := beq_iff_eq.2 hlo
    have e2' : (loA != loB) = false := by simp [hlo]
    have e3 : (hiA == hiB) = false := beq_eq_false_iff_ne.2 hhi
    have e3' : (hiA != hiB) = true := bne_iff_ne.2 hhi
    clear hk hlo hhi
    go_enter Try.func11, Try.ntmps11
    go_wp2
    go_ret
    exact ⟨ret_b RF.out, HBB.out⟩
  have e1 : (kA == kB) = true := beq_iff_eq.2 hk
  have e1' : (kA != kB) = false := by simp [hk]
  have e2 : (loA == loB) = true := beq_iff_eq.2 hlo
  have e2' : (loA != loB) = false := by simp [hlo]
  have e3 : (hiA == hiB) = true := beq_iff_eq.2 hhi
  have e3' : (hiA != hiB) = false := by simp [hhi]
  have HR2 : Hid (r = (qn && decide (ps' = u.ps) && decide (rs' = u.rs))) := hid_of (by rw [HR.out, decide_eq_true hk, decide_eq_true hlo, decide_eq_true hhi, HQN.out]; rfl)
  clear hk hlo hhi HR
  cases qn
  · have RF : Hid (false = r) := hid_of (by rw [HR2.out]; rfl)
    go_enter Try.func11, Try.ntmps11
    go_wp2_with (go_at_call 30; ((with_reducible refine (CN.out _ HBB.out).mono ?_); (rintro e w2 ⟨rfl, h2⟩)); (have K2 := hid_of h2); (obtain ⟨a0, a1, a2, a3, a4, a5, b0, b1, b2, b3, b4, b5⟩ := HC.out w2 h2); clear h2)
    go_ret
    exact ⟨ret_b RF.out, HBB.out.trans (K2.out.mono HBB.out.size)⟩
  by_cases hp : npA = npB
  case neg =>
    have RF : Hid (false = r) := hid_of (by rw [HR2.out, decide_eq_false (p := ps' = u.ps) (fun h => hp (by rw [HL.out.1, HL.out.2.1, h]))]; rfl)
    have f1 : (npA == npB) = false := beq_eq_false_iff_ne.2 hp
    have f2 : ((npA : Int) == (npB : Int)) = false := beq_eq_false_iff_ne.2 (by omega)
    have f3 : ((npA : Int) != (npB : Int)) = true := bne_iff_ne.2 (by omega)
    clear hp
    go_enter Try.func11, Try.ntmps11
    go_wp2_with (go_at_call 30; ((with_reducible refine (CN.out _ HBB.out).mono ?_); (rintro e w2 ⟨rfl, h2⟩)); (have K2 := hid_of h2); (obtain ⟨a0, a1, a2, a3, a4, a5, b0, b1, b2, b3, b4, b5⟩ := HC.out w2 h2); clear h2)
    go_ret
    exact ⟨ret_b RF.out, HBB.out.trans (K2.out.mono HBB.out.size)⟩
  by_cases hrr : nrA = nrB
  case neg =>
    subst hp
    have RF : Hid (false = r) := hid_of (by rw [HR2.out, decide_eq_false (p := rs' = u.rs) (fun h => hrr (by rw [HL.out.2.2.1, HL.out.2.2.2, h])), Bool.and_false])
    have f1 : (nrA == nrB) = false := beq_eq_false_iff_ne.2 hrr
    have f2 : ((nrA : Int) == (nrB : Int)) = false := beq_eq_false_iff_ne.2 (by omega)
    have f3 : ((nrA : Int) != (nrB : Int)) = true := bne_iff_ne.2 (by omega)
    clear hrr
    go_enter Try.func11, Try.ntmps11
    go_wp2_with (go_at_call 30; ((with_reducible refine (CN.out _ HBB.out).mono ?_); (rintro e w2 ⟨rfl, h2⟩)); (have K2 := hid_of h2); (obtain ⟨a0, a1, a2, a3, a4, a5, b0, b1, b2, b3, b4, b5⟩ := HC.out w2 h2); clear h2)
    go_ret
    exact ⟨ret_b RF.out, HBB.out.trans (K2.out.mono HBB.out.size)⟩
  subst hp hrr
  go_enter Try.func11, Try.ntmps11
  go_wp2_with (go_at_call 30; ((with_reducible refine (CN.out _ HBB.out).mono ?_); (rintro e w2 ⟨rfl, h2⟩)); (have K2 := hid_of h2); (obtain ⟨a0, a1, a2, a3, a4, a5, b0, b1, b2, b3, b4, b5⟩ := HC.out w2 h2); clear h2)
  obtain ⟨WW, hWW⟩ : ∃ WW, WW = ((w.alloc (.cells #[.int .i64 kA, .int .i64 loA, .int .i64 hiA, .slice anA nnA cnA, .slice apA npA cpA, .slice arA nrA crA] 26)).alloc (.cells #[.int .i64 kB, .int .i64 loB, .int .i64 hiB, .slice anB nnB cnB, .slice apB npA cpB, .slice arB nrA crB] 26)) := ⟨_, rfl⟩
  rw [← hWW] at K2 HC HBB
  clear hWW
  clear a0 a1 a2 a3 a4 a5 b0 b1 b2 b3 b4 b5
  go_loopw [5] (fun iv wr => ∃ i : Nat, iv = .int .i64 i ∧ i ≤ nrA ∧ Hid (∀ j, j < i → rs'[j]? = u.rs[j]?) ∧ Hid (Below WW.heap.size WW wr)) (fun iv _ => nrA - (intOf iv).toNat)
  case atStart => exact ⟨0, rfl, Nat.zero_le _, hid_of (fun j h => absurd h (Nat.not_lt_zero j)), K2⟩
  case round =>
    clear K2
    obtain ⟨i, rfl, hi, HM, hb⟩ := hrel
    obtain ⟨a0, a1, a2, a3, a4, a5, b0, b1, b2, b3, b4, b5⟩ := HC.out wr hb.out
    by_cases hlt : i < nrA
    · have d1 : decide (i < nrA) = true := decide_eq_true hlt
      have hlt' : (i : Int) < (nrA : Int) := by omega
      have HLT := hid_of hlt
      have hl : i < rs'.length := by have := HL.out; omega
      have hm : i < u.rs.length := by have := HL.out; omega
      obtain ⟨g, o, aX, kX, dX, rfl, RX, hcX⟩ := X1.out.r.get (List.getElem?_eq_getElem hl)
      obtain ⟨g2, o2, aY, kY, dY, rfl, RY, hcY⟩ := X2.out.r.get (List.getElem?_eq_getElem hm)
      have hbw : Below w.heap.size w wr := HBB.out.trans (hb.out.mono HBB.out.size)
      obtain ⟨c0, c1⟩ := hcX wr hbw
      obtain ⟨d0, d2⟩ := hcY wr hbw
      obtain ⟨bx, hx⟩ : ∃ bx, bx = ba rs'[i].2 := ⟨_, rfl⟩
      obtain ⟨bz, hz⟩ : ∃ bz, bz = ba u.rs[i].2 := ⟨_, rfl⟩
      rw [← hx] at c1
      rw [← hz] at d2
      have RQ : Hid (∀ m, Calls Try.prog 30 #[.slice aX kX dX, .slice aY kY dY] (wr.drewN m) fun e w' => e = .returned (.bool (decide (rs'[i].1 = u.rs[i].1))) ∧ ∃ m', w' = (wr.drewN m).drewN m') := hid_of (fun m => rnames_q _ _ aX aY kX kY dX dY _ (RX.at (bel_drewN hbw m)) (RY.at (bel_drewN hbw m)))
      obtain ⟨q, hq⟩ : ∃ q, q = decide (rs'[i].1 = u.rs[i].1) := ⟨_, rfl⟩
      rw [← hq] at RQ
      have HLX := hid_of hl
      have HMX := hid_of hm
      by_cases he : rs'[i].2 = u.rs[i].2
      case neg =>
        have et := eq_f hx hz he
        have RF : Hid (false = r) := hid_of (by
          rw [HR2.out, decide_eq_false (p := rs' = u.rs) (fun h => he (by subst h; rfl)), Bool.and_false])
        clear hlt hl hm hcX hcY hx hz he hq hbw RX RY
        go_wp2
        go_quiet (fail)
        go_wp2
        go_ret
        exact ⟨ret_b RF.out, HBB.out.trans ((bel_drewN hb.out nq).mono HBB.out.size)⟩
      have et := eq_t hx hz he
      cases q
      · have RF : Hid (false = r) := hid_of (by
          rw [HR2.out, decide_eq_false (p := rs' = u.rs) (fun h => of_decide_eq_false hq.symm (by subst h; rfl)), Bool.and_false])
        clear hlt hl hm hcX hcY hx hz he hq hbw RX RY
        go_wp2
        go_quiet ((go_at_call 30; exact Calls.quiet_of (RQ.out _)))
        go_wp2
        go_ret
        exact ⟨ret_b RF.out, HBB.out.trans ((bel_drewN hb.out nq).mono HBB.out.size)⟩
      · have HE : Hid (∀ j, j < i + 1 → rs'[j]? = u.rs[j]?) := hid_of (fun j hj => by
          by_cases e : j = i
          · subst e
            rw [List.getElem?_eq_getElem hl, List.getElem?_eq_getElem hm]
            exact congrArg some (Prod.ext (of_decide_eq_true hq.symm) he)
          · exact HM.out j (by omega))
        clear hlt hl hm hcX hcY hx hz he hq hbw RX RY
        go_wp2
        go_quiet ((go_at_call 30; exact Calls.quiet_of (RQ.out _)))
        go_wp2
        go_roundw
        case rel => exact ⟨i + 1, by go_num, HLT.out, HE, hid_of (bel_drewN hb.out nq)⟩
        case measure => have := HLT.out; simp [intOf]; omega
    · have d1 : decide (i < nrA) = false := decide_eq_false hlt
      have HRE : Hid (rs' = u.rs) := hid_of (ext_to HL.out.2.2.1 HL.out.2.2.2 (fun j hj => HM.out j (by omega)))
      have HR3 : Hid (r = decide (ps' = u.ps)) := hid_of (by rw [HR2.out, decide_eq_true HRE.out]; simp)
      have HB0 := hb
      clear hlt hi HM
      go_wp2
      clear a0 a1 a2 a3 a4 a5 b0 b1 b2 b3 b4 b5
      go_loopw [6] (fun iv w5 => ∃ i : Nat, iv = .int .i64 i ∧ i ≤ npA ∧ Hid (∀ j, j < i → ps'[j]? = u.ps[j]?) ∧ Hid (Below WW.heap.size WW w5)) (fun iv _ => npA - (intOf iv).toNat)
      case atStart => exact ⟨0, rfl, Nat.zero_le _, hid_of (fun j h => absurd h (Nat.not_lt_zero j)), HB0⟩
      case round =>
        clear HB0 hb d1
        obtain ⟨i, rfl, hin, HM, hb⟩ := hrel
        obtain ⟨a0, a1, a2, a3, a4, a5, b0, b1, b2, b3, b4, b5⟩ := HC.out wr hb.out
        by_cases hlt : i < npA
        · have d1 : decide (i < npA) = true := decide_eq_true hlt
          have hlt' : (i : Int) < (npA : Int) := by omega
          have HLT := hid_of hlt
          have hl : i < ps'.length := by have := HL.out; omega
          have hm : i < u.ps.length := by have := HL.out; omega
          obtain ⟨g, o, kX, loX, hiX, anX, nnX, cnX, apX, npX, cpX, arX, nrX, crX, rfl, LX, hcX⟩ := X1.out.p.get (List.getElem?_eq_getElem hl)
          obtain ⟨g2, o2, kY, loY, hiY, anY, nnY, cnY, apY, npY, cpY, arY, nrY, crY, rfl, LY, hcY⟩ := X2.out.p.get (List.getElem?_eq_getElem hm)
          have hbw : Below w.heap.size w wr := HBB.out.trans (hb.out.mono HBB.out.size)
          have HX : Hid (∀ wz, Below w.heap.size w wz → _) := hid_of hcX
          have HY : Hid (∀ wz, Below w.heap.size w wz → _) := hid_of hcY
          obtain ⟨c0, c1, c2, c3, c4, c5⟩ := hcX wr hbw
          obtain ⟨d0, d2, d3, d4, d5, d6⟩ := hcY wr hbw
          have CALL := hid_of (fun (wz : World) (hz : Below w.heap.size w wz) => IH.out ps'[i] (List.getElem_mem hl) u.ps[i] kX loX hiX anX nnX cnX apX npX cpX arX nrX crX kY loY hiY anY nnY cnY apY npY cpY arY nrY crY wz (LX.at hz) (LY.at hz))
          obtain ⟨q, hq⟩ : ∃ q, q = decide (ps'[i] = u.ps[i]) := ⟨_, rfl⟩
          rw [← hq] at CALL
          have HBW5 := hid_of hbw
          cases q
          · have RF : Hid (false = r) := hid_of (by
              rw [HR3.out, decide_eq_false (p := ps' = u.ps) (fun h => of_decide_eq_false hq.symm (by subst h; rfl))])
            clear hlt hl hm hcX hcY hq hbw LX LY
            go_wp2
            have cs0 := And.intro a4 (And.intro b4 (And.intro c0 (And.intro c1 (And.intro c2 (And.intro c3 (And.intro c4 (And.intro c5 (And.intro d0 (And.intro d2 (And.intro d3 (And.intro d4 (And.intro d5 d6))))))))))))
            go_region_held3 (fun wz => wz.cell? ⟨w.heap.size, 4, none⟩ = some (.slice (some ⟨g, o, none⟩) npA cpA) ∧ wz.cell? ⟨w.heap.size + 1, 4, none⟩ = some (.slice (some ⟨g2, o2, none⟩) npA cpB) ∧ wz.cell? ⟨g, o + i * 6, none⟩ = some (.int .i64 kX) ∧ wz.cell? ⟨g, o + i * 6 + 1, none⟩ = some (.int .i64 loX) ∧ wz.cell? ⟨g, o + i * 6 + 2, none⟩ = some (.int .i64 hiX) ∧ wz.cell? ⟨g, o + i * 6 + 3, none⟩ = some (.slice anX nnX cnX) ∧ wz.cell? ⟨g, o + i * 6 + 4, none⟩ = some (.slice apX npX cpX) ∧ wz.cell? ⟨g, o + i * 6 + 5, none⟩ = some (.slice arX nrX crX) ∧ wz.cell? ⟨g2, o2 + i * 6, none⟩ = some (.int .i64 kY) ∧ wz.cell? ⟨g2, o2 + i * 6 + 1, none⟩ = some (.int .i64 loY) ∧ wz.cell? ⟨g2, o2 + i * 6 + 2, none⟩ = some (.int .i64 hiY) ∧ wz.cell? ⟨g2, o2 + i * 6 + 3, none⟩ = some (.slice anY nnY cnY) ∧ wz.cell? ⟨g2, o2 + i * 6 + 4, none⟩ = some (.slice apY npY cpY) ∧ wz.cell? ⟨g2, o2 + i * 6 + 5, none⟩ = some (.slice arY nrY crY)) (first | exact cs0 | exact cs6 | go_keep) ((go_at_call 11; ((with_reducible refine (CALL.out _ HBW5.out.drew).mono ?_); (rintro e w6 ⟨rfl, h6⟩); (have H6 := hid_of (hb.out.trans ((undrew h6).mono hb.out.size))); (have G6 := hid_of (HBW5.out.trans ((undrew h6).mono HBW5.out.size))); (obtain ⟨_, _, _, _, z4, _, _, _, _, _, z10, _⟩ := HC.out w6 H6.out); (obtain ⟨x0, x1, x2, x3, x4, x5⟩ := HX.out w6 G6.out); (obtain ⟨y0, y1, y2, y3, y4, y5⟩ := HY.out w6 G6.out); (have cs6 := And.intro z4 (And.intro z10 (And.intro x0 (And.intro x1 (And.intro x2 (And.intro x3 (And.intro x4 (And.intro x5 (And.intro y0 (And.intro y1 (And.intro y2 (And.intro y3 (And.intro y4 y5))))))))))))); clear h6)))
            all_goals go_wp2
            all_goals go_ret
            all_goals exact ⟨ret_b RF.out, HBB.out.trans (H6.out.mono HBB.out.size)⟩
          · have HE : Hid (∀ j, j < i + 1 → ps'[j]? = u.ps[j]?) := hid_of (fun j hj => by
              by_cases e : j = i
              · subst e
                rw [List.getElem?_eq_getElem hl, List.getElem?_eq_getElem hm]
                exact congrArg some (of_decide_eq_true hq.symm)
              · exact HM.out j (by omega))
            clear hlt hl hm hcX hcY hq hbw LX LY
            go_wp2
            have cs0 := And.intro a4 (And.intro b4 (And.intro c0 (And.intro c1 (And.intro c2 (And.intro c3 (And.intro c4 (And.intro c5 (And.intro d0 (And.intro d2 (And.intro d3 (And.intro d4 (And.intro d5 d6))))))))))))
            go_region_held3 (fun wz => wz.cell? ⟨w.heap.size, 4, none⟩ = some (.slice (some ⟨g, o, none⟩) npA cpA) ∧ wz.cell? ⟨w.heap.size + 1, 4, none⟩ = some (.slice (some ⟨g2, o2, none⟩) npA cpB) ∧ wz.cell? ⟨g, o + i * 6, none⟩ = some (.int .i64 kX) ∧ wz.cell? ⟨g, o + i * 6 + 1, none⟩ = some (.int .i64 loX) ∧ wz.cell? ⟨g, o + i * 6 + 2, none⟩ = some (.int .i64 hiX) ∧ wz.cell? ⟨g, o + i * 6 + 3, none⟩ = some (.slice anX nnX cnX) ∧ wz.cell? ⟨g, o + i * 6 + 4, none⟩ = some (.slice apX npX cpX) ∧ wz.cell? ⟨g, o + i * 6 + 5, none⟩ = some (.slice arX nrX crX) ∧ wz.cell? ⟨g2, o2 + i * 6, none⟩ = some (.int .i64 kY) ∧ wz.cell? ⟨g2, o2 + i * 6 + 1, none⟩ = some (.int .i64 loY) ∧ wz.cell? ⟨g2, o2 + i * 6 + 2, none⟩ = some (.int .i64 hiY) ∧ wz.cell? ⟨g2, o2 + i * 6 + 3, none⟩ = some (.slice anY nnY cnY) ∧ wz.cell? ⟨g2, o2 + i * 6 + 4, none⟩ = some (.slice apY npY cpY) ∧ wz.cell? ⟨g2, o2 + i * 6 + 5, none⟩ = some (.slice arY nrY crY)) (first | exact cs0 | exact cs6 | go_keep) ((go_at_call 11; ((with_reducible refine (CALL.out _ HBW5.out.drew).mono ?_); (rintro e w6 ⟨rfl, h6⟩); (have H6 := hid_of (hb.out.trans ((undrew h6).mono hb.out.size))); (have G6 := hid_of (HBW5.out.trans ((undrew h6).mono HBW5.out.size))); (obtain ⟨_, _, _, _, z4, _, _, _, _, _, z10, _⟩ := HC.out w6 H6.out); (obtain ⟨x0, x1, x2, x3, x4, x5⟩ := HX.out w6 G6.out); (obtain ⟨y0, y1, y2, y3, y4, y5⟩ := HY.out w6 G6.out); (have cs6 := And.intro z4 (And.intro z10 (And.intro x0 (And.intro x1 (And.intro x2 (And.intro x3 (And.intro x4 (And.intro x5 (And.intro y0 (And.intro y1 (And.intro y2 (And.intro y3 (And.intro y4 y5))))))))))))); clear h6)))
            all_goals go_wp2
            go_roundw
            case rel => exact ⟨i + 1, by go_num, HLT.out, HE, H6⟩
            case measure => have := HLT.out; simp [intOf]; omega
        · have d1 : decide (i < npA) = false := decide_eq_false hlt
          have RT : Hid (true = r) := hid_of (by
            rw [HR3.out]
            exact (decide_eq_true (ext_to HL.out.1 HL.out.2.1 (fun j hj => HM.out j (by omega)))).symm)
          clear hlt
          go_wp2
          go_ret
          exact ⟨ret_b RT.out, HBB.out.trans (hb.out.mono HBB.out.size)⟩
end Go.Proofs.Ytcjnmgokddfidaa

/- The reference's Name. Bounds on sizes alone. -/
namespace Go.Proofs.Ytcjnmgokddfidaa
open Go.RowKit

set_option maxRecDepth 100000 in
theorem rname9_any (s : ByteArray) (w : World) (hs : s.size ≤ maxLen) : Calls Try.prog 84 #[.string s] w fun e w' => e = .returned (.bool (isName (strBytes s))) ∧ w' = w := by
  unfold maxLen at hs
  obtain ⟨r, hr⟩ : ∃ r, r = isName (strBytes s) := ⟨_, rfl⟩
  rw [← hr]
  have HR := hid_of hr
  clear hr
  by_cases h0 : s.size = 0
  · have RF : Hid (r = false) := hid_of (by
      rw [HR.out, Bool.eq_false_iff]; intro h; have := ((isName_iff _).1 h).1; rw [strBytes_length] at this; omega)
    have d0 : decide ((s.size : Int) < 1) = true := decide_eq_true (by omega)
    go_enter Try.func84, Try.ntmps84
    go_wp2
    go_ret
    exact ⟨by rw [RF.out] <;> rfl, rfl⟩
  by_cases h16 : 16 < s.size
  · have RF : Hid (r = false) := hid_of (by
      rw [HR.out, Bool.eq_false_iff]; intro h; have := ((isName_iff _).1 h).2.1; rw [strBytes_length] at this; omega)
    have d0 : decide ((s.size : Int) < 1) = false := decide_eq_false (by omega)
    have d1 : decide ((s.size : Int) > 16) = true := decide_eq_true (by omega)
    go_enter Try.func84, Try.ntmps84
    go_wp2
    go_ret
    exact ⟨by rw [RF.out] <;> rfl, rfl⟩
  have d0 : decide ((s.size : Int) < 1) = false := decide_eq_false (by omega)
  have d1 : decide ((s.size : Int) > 16) = false := decide_eq_false (by omega)
  have hp : 0 < s.size := by omega
  obtain ⟨y, hy⟩ : ∃ y : Int, y = ((s[0]).toNat : Int) := ⟨_, rfl⟩
  have HY : Hid ((strBytes s)[0]? = some y) := hid_of (by rw [strBytes_at s 0 hp, hy])
  have hys : ((s[0]).toNat : Int) = y := hy.symm
  clear hy
  have HP := hid_of hp
  have H16 := hid_of h16
  obtain ⟨q, hq⟩ : ∃ q, q = isl y := ⟨_, rfl⟩
  have HQ := hid_of hq
  have hsp : (q = true ∧ 97 ≤ y ∧ y ≤ 122) ∨ (q = false ∧ y < 97) ∨ (q = false ∧ 97 ≤ y ∧ 122 < y) := by
    rw [hq]
    by_cases h1 : 97 ≤ y
    · by_cases h2 : y ≤ 122
      · exact .inl ⟨by simp [isl]; omega, h1, h2⟩
      · exact .inr (.inr ⟨by simp [isl]; omega, h1, by omega⟩)
    · exact .inr (.inl ⟨by simp [isl]; omega, by omega⟩)
  clear hq
  rcases hsp with ⟨rfl, e1, e2⟩ | ⟨rfl, e1⟩ | ⟨rfl, e1, e2⟩
  rotate_left
  · have RF : Hid (r = false) := hid_of (by
      rw [HR.out, Bool.eq_false_iff]; intro h; have := ((isName_iff _).1 h).2.2.1 y HY.out; rw [← HQ.out] at this; exact absurd this (by simp))
    have dA : decide (y < 97) = true := decide_eq_true (by omega)
    go_enter Try.func84, Try.ntmps84
    go_wp2
    go_ret
    exact ⟨by rw [RF.out] <;> rfl, rfl⟩
  · have RF : Hid (r = false) := hid_of (by
      rw [HR.out, Bool.eq_false_iff]; intro h; have := ((isName_iff _).1 h).2.2.1 y HY.out; rw [← HQ.out] at this; exact absurd this (by simp))
    have dA : decide (y < 97) = false := decide_eq_false (by omega)
    have dB : decide (y > 122) = true := decide_eq_true (by omega)
    go_enter Try.func84, Try.ntmps84
    go_wp2
    go_ret
    exact ⟨by rw [RF.out] <;> rfl, rfl⟩
  have dA : decide (y < 97) = false := decide_eq_false (by omega)
  have dB : decide (y > 122) = false := decide_eq_false (by omega)
  go_enter Try.func84, Try.ntmps84
  go_wp2
  clear hys
  go_loopw [3] (fun iv wr => ∃ (i : Nat), i ≤ s.size ∧ iv = .int .i64 i ∧ wr = w ∧ Hid (∀ (j : Nat) (c : Int), j < i → (strBytes s)[j]? = some c → inw c = true)) (fun iv _ => s.size - (intOf iv).toNat)
  case atStart => exact ⟨0, Nat.zero_le _, rfl, rfl, hid_of (fun j c hj => by omega)⟩
  case round =>
    obtain ⟨i, hi, rfl, rfl, hall⟩ := hrel
    have HALL := hid_of hall.out
    clear hall
    by_cases hlt : i < s.size
    · obtain ⟨x, hx⟩ : ∃ x : Int, x = ((s[i]).toNat : Int) := ⟨_, rfl⟩
      have HX : Hid ((strBytes s)[i]? = some x) := hid_of (by rw [strBytes_at s i hlt, hx])
      have hxs : ((s[i]).toNat : Int) = x := hx.symm
      clear hx
      have HLT := hid_of hlt
      have hcs : (97 ≤ x ∧ x ≤ 122) ∨ (48 ≤ x ∧ x ≤ 57) ∨ (x = 45) ∨ (x < 48 ∧ x ≠ 45) ∨ (57 < x ∧ x < 97) ∨ (122 < x) := by omega
      rcases hcs with hcs | hcs | hcs | hcs | hcs | hcs
      · have HI : Hid (inw x = true) := hid_of (by unfold inw isl; simp; omega)
        have ta : decide (x < 97) = false := by simp; omega
        have tb : decide (x > 122) = false := by simp; omega
        clear hcs
        go_wp2
        go_roundw
        case rel => have := HLT.out; exact ⟨i + 1, by omega, by go_num, trivial, hid_of (fun j c hj hc => by
          by_cases e : j = i
          · subst e; rw [HX.out] at hc; cases hc; exact HI.out
          · exact HALL.out j c (by omega) hc)⟩
        case measure => have := HLT.out; simp [intOf]; omega
      · have HI : Hid (inw x = true) := hid_of (by unfold inw isl; simp; omega)
        have ta : decide (x < 97) = true := by simp; omega
        have tc : decide (x < 48) = false := by simp; omega
        have td : decide (x > 57) = false := by simp; omega
        clear hcs
        go_wp2
        go_roundw
        case rel => have := HLT.out; exact ⟨i + 1, by omega, by go_num, trivial, hid_of (fun j c hj hc => by
          by_cases e : j = i
          · subst e; rw [HX.out] at hc; cases hc; exact HI.out
          · exact HALL.out j c (by omega) hc)⟩
        case measure => have := HLT.out; simp [intOf]; omega
      · have HI : Hid (inw x = true) := hid_of (by unfold inw isl; simp; omega)
        have ta : decide (x < 97) = true := by simp; omega
        have tc : decide (x < 48) = true := by simp; omega
        have te : (x != 45) = false := by simp; omega
        clear hcs
        go_wp2
        go_roundw
        case rel => have := HLT.out; exact ⟨i + 1, by omega, by go_num, trivial, hid_of (fun j c hj hc => by
          by_cases e : j = i
          · subst e; rw [HX.out] at hc; cases hc; exact HI.out
          · exact HALL.out j c (by omega) hc)⟩
        case measure => have := HLT.out; simp [intOf]; omega
      · have HI : Hid (inw x = false) := hid_of (by unfold inw isl; simp; omega)
        have ta : decide (x < 97) = true := by simp; omega
        have tc : decide (x < 48) = true := by simp; omega
        have te : (x != 45) = true := by simp; omega
        clear hcs
        have RF : Hid (r = false) := hid_of (by
          rw [HR.out, Bool.eq_false_iff]; intro h; have := ((isName_iff _).1 h).2.2.2 i x HX.out; rw [HI.out] at this; exact absurd this (by simp))
        go_wp2
        go_ret
        exact ⟨by rw [RF.out] <;> rfl, rfl⟩
      · have HI : Hid (inw x = false) := hid_of (by unfold inw isl; simp; omega)
        have ta : decide (x < 97) = true := by simp; omega
        have tc : decide (x < 48) = false := by simp; omega
        have td : decide (x > 57) = true := by simp; omega
        have te : (x != 45) = true := by simp; omega
        clear hcs
        have RF : Hid (r = false) := hid_of (by
          rw [HR.out, Bool.eq_false_iff]; intro h; have := ((isName_iff _).1 h).2.2.2 i x HX.out; rw [HI.out] at this; exact absurd this (by simp))
        go_wp2
        go_ret
        exact ⟨by rw [RF.out] <;> rfl, rfl⟩
      · have HI : Hid (inw x = false) := hid_of (by unfold inw isl; simp; omega)
        have ta : decide (x < 97) = false := by simp; omega
        have tb : decide (x > 122) = true := by simp; omega
        have tc : decide (x < 48) = false := by simp; omega
        have td : decide (x > 57) = true := by simp; omega
        have te : (x != 45) = true := by simp; omega
        clear hcs
        have RF : Hid (r = false) := hid_of (by
          rw [HR.out, Bool.eq_false_iff]; intro h; have := ((isName_iff _).1 h).2.2.2 i x HX.out; rw [HI.out] at this; exact absurd this (by simp))
        go_wp2
        go_ret
        exact ⟨by rw [RF.out] <;> rfl, rfl⟩
    · obtain rfl : s.size = i := by omega
      have RT : Hid (r = true) := hid_of (by
        rw [HR.out, isName_iff, strBytes_length]
        exact ⟨HP.out, by have := H16.out; omega, fun c hc => by rw [HY.out] at hc; cases hc; exact HQ.out.symm, fun j c hc => HALL.out j c (by have := (List.getElem?_eq_some_iff.1 hc).1; rw [strBytes_length] at this; exact this) hc⟩)
      go_wp2
      go_ret
      exact ⟨by rw [RT.out] <;> rfl, rfl⟩
end Go.Proofs.Ytcjnmgokddfidaa
