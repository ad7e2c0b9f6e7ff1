/- Texts in one: LatJr. -/
import Derived.Test.YtcjnmgokddfidaaMgDE
import Derived.Deep.CutRange
import Derived.Deep.RegionLaw
import Derived.Deep.RegionHeld3
set_option linter.unusedVariables false
set_option linter.unusedSimpArgs false
/- The reference's read, whatever it reads. Bounds on sizes alone. -/
namespace Go.Proofs.Ytcjnmgokddfidaa
open Go.RowKit
namespace Rx
set_option maxRecDepth 100000
set_option maxHeartbeats 3200000

theorem wpList_gen {P : Program} {ops : Array Oper} {rest : List Oper} {o : Oper} {a : Act} {w : World} {Q : Exit → Act → World → Prop} (S E : TypeId) (z : Value) (eb sz : Nat) (hu : P.underlying S = some (.slice E)) (hi : (P.info? E).map (fun i => (i.zero, i.size, i.bytes)) = some (some z, sz, eb)) (hz : z.cells.size = sz) (hp : 0 < sz) (hgd : o.guard = none) (s x : Operand)
    (ho : o.op = .call { callee := .builtin .append, args := #[s, x], argTypes := #[S, S] })
    {B : Nat} {v : Value} {n : Nat} {l : List Value} (hv : a.eval s = v) (H : w.ownsRow B E sz v n l) (hB : B ≤ w.heap.size) {vx : Value} {m : Nat} {news : List Value} (hx : a.eval x = vx) (L : Src P sz S vx m news w) (hl : (n + m) * eb ≤ 140737488355328) (hl2 : n + m ≤ 140737488355328)
    (h : ∀ (ao : Option Addr) (cap : Nat) (w' : World), GA B E sz w w' v (.slice ao (n + m) cap) (n + m) (l ++ news) → wpList P ops Q rest (a.put o.dst (.slice ao (n + m) cap)) w') :
    wpList P ops Q (o :: rest) a w := by
  obtain ⟨i0, hi, hz0, hz1, hz2⟩ := info_parts hi
  refine wpList_append_src _ hgd s x S S ho B E i0 z sz eb hu hi hz0 hz1 hz2 hz hp v n l hv H vx m news hx L (by unfold maxLen; omega) (by omega) hB ?_
  intro v2 w2 hown hg _ hf
  obtain ⟨ao, cap, rfl⟩ := own_shape hown
  exact h ao cap w2 ⟨hown, hg, hf⟩
theorem keeps_x {g : SV} {d : List Int} {p b : Nat} {w4 w6 : World} {o : Obj} {off : Option Nat} (h : RG b g d (w4.alloc o) w6 off) (hb : b ≤ p) (j : Nat) (v : Value) : Keeps (fun k => p < k) w4 (w6.setCell ⟨w4.heap.size, j, none⟩ v) :=
  ⟨by have := h.size; simp at this ⊢; omega, fun k hk hl => (set_blk 0 (by omega)).trans ((h.blk (by simp; omega) (by omega)).trans ((bel_alloc w4 o).block k hl))⟩
theorem RS.setX {b : Nat} {g : SV} {d : List Int} {w : World} {p : Nat} {x0 x1 x2 x3 x4 x5 : Value} {off : Option Nat} {wr : World} (h : RS b g d w p x0 x1 x2 x3 x4 x5 off wr) (q j : Nat) (v : Value) (hq : p < q) : RS b g d w p x0 x1 x2 x3 x4 x5 off (wr.setCell ⟨q, j, none⟩ v) := by
  have h1 := h.hb
  have h2 := h.hp
  obtain ⟨s, k⟩ := h.rg
  exact ⟨⟨is_same s (by simp) (fun k hk => set_blk 0 (by omega)), ⟨k.os, k.tape, k.output, by simpa using k.size, fun x hx hn => (set_blk 0 (by omega)).trans (k.block x hx hn)⟩⟩, h1, ⟨h2.1, by simpa using h2.2⟩, (set_blk 0 (by omega)).trans h.res, (set_blk 0 (by omega)).trans h.box⟩
theorem ns_x {b : Nat} {g : SV} {d : List Int} {p : Nat} {w4 w6 : World} {o : Obj} {off : Option Nat} {v1 v2 v : Value} {l : List Str} (n : NS (SK p w4 v1 v2) w4 v l) (h : RG b g d (w4.alloc o) w6 off) (hb : b ≤ p) (j : Nat) (u : Value) : NS (SK p (w6.setCell ⟨w4.heap.size, j, none⟩ u) v1 v2) (w6.setCell ⟨w4.heap.size, j, none⟩ u) v l := by
  have k := keeps_x h hb j u
  exact (n.keep ⟨k.1, fun q hq hl => k.2 q hq.1.1 hl⟩).mono fun q hq => ⟨⟨hq.1.1, Nat.lt_of_lt_of_le hq.1.2 k.1⟩, hq.2⟩
/-! What is read is small; the loops that end early. -/
theorem tR_len (d : List Int) (s : Option Nat) : (strU (Wr.tR d s).1).length ≤ d.length := by
  unfold strU
  rw [List.length_map]
  unfold Wr.tR
  split
  · simp
  · split
    · simp only [List.length_take, List.length_drop]; omega
    · simp
theorem lN_small (d : List Int) (s : Option Nat) : ∀ j, ∀ x ∈ (lN d s j).1, x.length ≤ d.length
  | 0, x, h => by simp [lN] at h
  | j + 1, x, h => by
    rw [lN] at h
    split at h
    · exact lN_small d s j x h
    · rcases List.mem_append.1 h with h | h
      · exact lN_small d s j x h
      · rw [List.mem_singleton.1 h]; exact tR_len d _
theorem rlF_small (d : List Int) (s : Option Nat) : (∀ x ∈ (rlF d s).1, x.length ≤ d.length) ∧ (rlF d s).1.length ≤ d.length := ⟨lN_small d _ _, Nat.le_trans (lN_len d _ _) (cR_le d s)⟩
section
variable (f : Option Nat → Lat × Option Nat) (d : List Int) (s : Option Nat)
theorem qN_dead (j : Nat) (h : (qN f d s j).2 = none) : ∀ i, qN f d s (j + i) = qN f d s j
  | 0 => rfl
  | i + 1 => by
    have := qN_dead j h i
    rw [← Nat.add_assoc, qN, this, if_pos h]
theorem oN_dead (j : Nat) (h : (oN f s j).2 = none) : ∀ i, oN f s (j + i) = oN f s j
  | 0 => rfl
  | i + 1 => by
    have := oN_dead j h i
    rw [← Nat.add_assoc, oN, this, if_pos h]
theorem hN_dead (j : Nat) (h : (hN d s j).2 = none) : ∀ i, hN d s (j + i) = hN d s j
  | 0 => rfl
  | i + 1 => by
    have := hN_dead j h i
    rw [← Nat.add_assoc, hN, this, if_pos h]
theorem qN_len (j : Nat) (hL : ∀ i, i < j → (qN f d s i).2 ≠ none) : (qN f d s j).1.1.length = j ∧ (qN f d s j).1.2.length = j := by
  induction j with
  | zero => exact ⟨rfl, rfl⟩
  | succ j ih =>
    obtain ⟨h1, h2⟩ := ih fun i hi => hL i (by omega)
    rw [qN, if_neg (hL j (by omega))]
    simp only [List.length_append, h1, h2, List.length_singleton]
    exact ⟨trivial, trivial⟩
theorem oN_len (j : Nat) (hL : ∀ i, i < j → (oN f s i).2 ≠ none) : (oN f s j).1.length = j := by
  induction j with
  | zero => rfl
  | succ j ih =>
    have h1 := ih fun i hi => hL i (by omega)
    rw [oN, if_neg (hL j (by omega))]
    simp only [List.length_append, h1, List.length_singleton]
theorem hN_len (j : Nat) (hL : ∀ i, i < j → (hN d s i).2 ≠ none) : (hN d s j).1.length = j := by
  induction j with
  | zero => rfl
  | succ j ih =>
    have h1 := ih fun i hi => hL i (by omega)
    rw [hN, if_neg (hL j (by omega))]
    simp only [List.length_append, h1, List.length_singleton]
theorem qN_pre (j : Nat) : ∀ i, (∃ t, (qN f d s (j + i)).1.1 = (qN f d s j).1.1 ++ t) ∧ ∃ t, (qN f d s (j + i)).1.2 = (qN f d s j).1.2 ++ t
  | 0 => ⟨⟨[], by simp⟩, ⟨[], by simp⟩⟩
  | i + 1 => by
    obtain ⟨⟨t, ht⟩, ⟨u, hu⟩⟩ := qN_pre j i
    rw [← Nat.add_assoc, qN]
    split
    · exact ⟨⟨t, ht⟩, ⟨u, hu⟩⟩
    · exact ⟨⟨t ++ [_], by rw [ht, List.append_assoc]⟩, ⟨u ++ [_], by rw [hu, List.append_assoc]⟩⟩
theorem oN_pre (j : Nat) : ∀ i, ∃ t, (oN f s (j + i)).1 = (oN f s j).1 ++ t
  | 0 => ⟨[], by simp⟩
  | i + 1 => by
    obtain ⟨u, hu⟩ := oN_pre j i
    rw [← Nat.add_assoc, oN]
    split
    · exact ⟨u, hu⟩
    · exact ⟨u ++ [_], by rw [hu, List.append_assoc]⟩
theorem hN_pre (j : Nat) : ∀ i, ∃ t, (hN d s (j + i)).1 = (hN d s j).1 ++ t
  | 0 => ⟨[], by simp⟩
  | i + 1 => by
    obtain ⟨u, hu⟩ := hN_pre j i
    rw [← Nat.add_assoc, hN]
    split
    · exact ⟨u, hu⟩
    · exact ⟨u ++ [_], by rw [hu, List.append_assoc]⟩
theorem get_mid {α : Type} {l t : List α} {x : α} {j : Nat} (h : l.length = j) : ((l ++ [x]) ++ t)[j]? = some x := by
  subst h
  simp
theorem qN_get (j m : Nat) (hj : j < m) (hL : ∀ i, i ≤ j → (qN f d s i).2 ≠ none) : (qN f d s m).1.1[j]? = some (strU (Wr.tR d (qN f d s j).2).1) ∧ (qN f d s m).1.2[j]? = some (f (Wr.tR d (qN f d s j).2).2).1 := by
  obtain ⟨⟨t, ht⟩, ⟨u, hu⟩⟩ := qN_pre f d s (j + 1) (m - (j + 1))
  obtain ⟨h1, h2⟩ := qN_len f d s j fun i hi => hL i (by omega)
  rw [show j + 1 + (m - (j + 1)) = m by omega] at ht hu
  rw [ht, hu, qN, if_neg (hL j (Nat.le_refl _))]
  exact ⟨get_mid h1, get_mid h2⟩
theorem oN_get (j m : Nat) (hj : j < m) (hL : ∀ i, i ≤ j → (oN f s i).2 ≠ none) : (oN f s m).1[j]? = some (f (oN f s j).2).1 := by
  obtain ⟨u, hu⟩ := oN_pre f s (j + 1) (m - (j + 1))
  have h2 := oN_len f s j fun i hi => hL i (by omega)
  rw [show j + 1 + (m - (j + 1)) = m by omega] at hu
  rw [hu, oN, if_neg (hL j (Nat.le_refl _))]
  exact get_mid h2
theorem hN_get (j m : Nat) (hj : j < m) (hL : ∀ i, i ≤ j → (hN d s i).2 ≠ none) : (hN d s m).1[j]? = some ((rlF d (hN d s j).2).1, strU (Wr.tR d (rlF d (hN d s j).2).2).1) := by
  obtain ⟨u, hu⟩ := hN_pre d s (j + 1) (m - (j + 1))
  have h2 := hN_len d s j fun i hi => hL i (by omega)
  rw [show j + 1 + (m - (j + 1)) = m by omega] at hu
  rw [hu, hN, if_neg (hL j (Nat.le_refl _))]
  exact get_mid h2
theorem qN_small : ∀ j, ∀ x ∈ (qN f d s j).1.1, x.length ≤ d.length
  | 0, x, h => by simp [qN] at h
  | j + 1, x, h => by
    rw [qN] at h
    split at h
    · exact qN_small j x h
    · rcases List.mem_append.1 h with h | h
      · exact qN_small j x h
      · rw [List.mem_singleton.1 h]; exact tR_len d _
theorem hN_small : ∀ j, ∀ r ∈ (hN d s j).1, (∀ x ∈ r.1, x.length ≤ d.length) ∧ r.1.length ≤ d.length ∧ r.2.length ≤ d.length
  | 0, r, h => by simp [hN] at h
  | j + 1, r, h => by
    rw [hN] at h
    split at h
    · exact hN_small j r h
    · rcases List.mem_append.1 h with h | h
      · exact hN_small j r h
      · rw [List.mem_singleton.1 h]; exact ⟨(rlF_small d _).1, (rlF_small d _).2, tR_len d _⟩
end
theorem uR_lt (d : List Int) {w : World} {b : Nat} {ao : Option Addr} {n cap : Nat} {s : Option Nat} (h : IS w b ao n cap d s) : (Wr.uR d s).1 < 18446744073709551616 := by
  cases s with
  | none => show 0 < _; omega
  | some off =>
    obtain ⟨last, ho, h⟩ := h
    have hdl := (bs_open h.rd).1
    unfold Wr.uR
    cases hd : Wr.dec (d.drop off) with
    | none => simp only [hd]; omega
    | some x => obtain ⟨m, k⟩ := x; simp only [hd]; exact (dec_le h.rng hdl ho hd).2
theorem iR_r64 {d : List Int} {w : World} {b : Nat} {ao : Option Addr} {n cap : Nat} {s : Option Nat} (h : IS w b ao n cap d s) : R64 (Wr.iR d s).1 := by
  have := uR_lt d h
  unfold Wr.iR Wr.unzig
  simp only
  split <;> exact ⟨by omega, by omega⟩
/-- The contract of read, n levels left. -/
def RQ (b : Nat) (g : SV) (d : List Int) (n : Nat) : Prop := ∀ (s : Option Nat) (w : World), IS w b g.ao g.n g.cap d s →
  Calls Try.prog 31 #[.pointer (some ⟨b, 0, none⟩), .int .i64 n] w (RdP b g d (rrF d n s).1 (rrF d n s).2 w)
section
variable (b : Nat) (g : SV) (n : Nat) (dep : Int) (d : List Int) (s : Option Nat) (w : World)
theorem rz_1 (hdep : dep = (n : Int) + 1 ∧ n ≤ 5) (h6 : d.length ≤ 1000000) (h : IS w b g.ao g.n g.cap d s) (hk : (Wr.uR d s).1 = 1) (o1 : Nat) (hs1 : (Wr.uR d s).2 = some o1) :
    Calls Try.prog 31 #[.pointer (some ⟨b, 0, none⟩), .int .i64 dep] w (RdP b g d (rrF d (n + 1) s).1 (rrF d (n + 1) s).2 w) := by
  have HBG : Hid (b < w.heap.size) := hid_of h.bad.2.1
  have hgn : g.n = d.length := h.bad.2.2.2.symm
  have hsm : d.length ≤ 1000000 := h6
  have hdd : decide (dep < 1) = false := by simp; omega
  have hdw : IntKind.i64.wrap (dep - 1) = (n : Int) := by rw [IntWalk.i64_in _ (by omega)]; omega
  have EE : Hid (rrF d (n + 1) s = (⟨1, 0, 0, [], [], []⟩, some o1)) := hid_of (by
    rw [rrF, hk, if_neg (by rw [hs1]; simp), if_neg (by decide : ¬(1 = 2 ∨ 1 = 3)), if_neg (by decide : ¬(1 = 4 ∨ 1 = 8)), if_neg (by decide : ¬(1 = 5)), if_neg (by decide : ¬(1 = 6)), if_neg (by decide : ¬(1 = 7)), if_neg (by decide : ¬(1 = 10)), hs1]
    try rfl)
  rw [EE.out]
  show Calls Try.prog 31 #[.pointer (some ⟨b, 0, none⟩), .int .i64 dep] w (RdP b g d ⟨1, 0, 0, [], [], []⟩ (some o1) w)
  have S0 : Hid (RS b g d w (w.heap.size + 1) (.int .i64 0) (.int .i64 0) (.int .i64 0) (.slice none 0 0) (.slice none 0 0) (.slice none 0 0) s ((w.alloc (.cells [.int .i64 0, .int .i64 0, .int .i64 0, .slice none 0 0, .slice none 0 0, .slice none 0 0].toArray 26 (0, 0))).alloc (.cells [.int .i64 0, .int .i64 0, .int .i64 0, .slice none 0 0, .slice none 0 0, .slice none 0 0].toArray 26 (0, 0)))) := hid_of (RS.start h rfl)
  have C0 : Hid (Calls Try.prog 57 #[.pointer (some ⟨b, 0, none⟩)] ((w.alloc (.cells [.int .i64 0, .int .i64 0, .int .i64 0, .slice none 0 0, .slice none 0 0, .slice none 0 0].toArray 26 (0, 0))).alloc (.cells [.int .i64 0, .int .i64 0, .int .i64 0, .slice none 0 0, .slice none 0 0, .slice none 0 0].toArray 26 (0, 0))) (fun e w' => e = .returned (.int .u64 1) ∧ RG b g d ((w.alloc (.cells [.int .i64 0, .int .i64 0, .int .i64 0, .slice none 0 0, .slice none 0 0, .slice none 0 0].toArray 26 (0, 0))).alloc (.cells [.int .i64 0, .int .i64 0, .int .i64 0, .slice none 0 0, .slice none 0 0, .slice none 0 0].toArray 26 (0, 0))) w' (some o1))) := hid_of (by
    have h1 := uint_rg (RG.start S0.out.rg.st)
    rw [hk, hs1] at h1
    exact h1)
  clear hdep h hk hs1 hsm h6 hgn
  go_enter Try.func31, Try.ntmps31
  go_wp2_with (go_at_call 57; ((with_reducible refine (C0.out).mono ?_); (rintro e w1 ⟨rfl, q1⟩)); have R0 := hid_of (S0.out.call q1); clear q1; have b3 : w1.cell? ⟨b, 3, none⟩ = some (.bool false) := R0.out.rg.st.bad.1; obtain ⟨p0, p1, p2, p3, p4, p5⟩ := R0.out.cells; have f0 := R0.out.free 0; have R1 := hid_of (R0.out.set 0 (.int .i64 1) rfl); obtain ⟨r0, r1, r2, r3, r4, r5⟩ := R1.out.cells)
  go_loopw [8] (fun iv wr => iv = .int .i64 0 ∧ Hid (RS b g d w (w.heap.size + 1) (.int .i64 1) (.int .i64 0) (.int .i64 0) (.slice none 0 0) (.slice none 0 0) (.slice none 0 0) (some o1) wr)) (fun _ _ => 0)
  case atStart => exact ⟨rfl, R1⟩
  case round =>
    obtain ⟨rfl, hk⟩ := hrel
    obtain ⟨y0, y1, y2, y3, y4, y5⟩ := hk.out.cells
    go_wp2_with (refine wpList_store_row rfl 26 (.tmp 4) (.tmp 130) rfl w.heap.size #[.int .i64 1, .int .i64 0, .int .i64 0, .slice none 0 0, .slice none 0 0, .slice none 0 0] rfl rfl 26 _ hk.out.res infoLat rfl (by simp [Value.oneCell']) ?_)
    refine bodyPost_ret (results_cell_row rfl _ _ w.heap.size 26 #[.int .i64 1, .int .i64 0, .int .i64 0, .slice none 0 0, .slice none 0 0, .slice none 0 0] (0, 0) _ rfl (setRow_heap _ _ _ _ _ _ hk.out.res) Try.underlying26 rfl infoLat) rfl ?_
    exact RS.fin (t := ⟨1, 0, 0, [], [], []⟩) hk.out ⟨⟨by simp only [Lat.k]; omega, by simp only [Lat.k]; omega⟩, ⟨by simp only [Lat.lo]; omega, by simp only [Lat.lo]; omega⟩, ⟨by simp only [Lat.hi]; omega, by simp only [Lat.hi]; omega⟩⟩ (fun y hy => by simp [Lat.ns] at hy) (fun y hy => by simp [Lat.rs] at hy) (ns_nil _ _) (ps_nil _ _) (rus_nil _ _) _ rfl
theorem rz_9 (hdep : dep = (n : Int) + 1 ∧ n ≤ 5) (h6 : d.length ≤ 1000000) (h : IS w b g.ao g.n g.cap d s) (hk : (Wr.uR d s).1 = 9) (o1 : Nat) (hs1 : (Wr.uR d s).2 = some o1) :
    Calls Try.prog 31 #[.pointer (some ⟨b, 0, none⟩), .int .i64 dep] w (RdP b g d (rrF d (n + 1) s).1 (rrF d (n + 1) s).2 w) := by
  have HBG : Hid (b < w.heap.size) := hid_of h.bad.2.1
  have hgn : g.n = d.length := h.bad.2.2.2.symm
  have hsm : d.length ≤ 1000000 := h6
  have hdd : decide (dep < 1) = false := by simp; omega
  have hdw : IntKind.i64.wrap (dep - 1) = (n : Int) := by rw [IntWalk.i64_in _ (by omega)]; omega
  have EE : Hid (rrF d (n + 1) s = (⟨9, 0, 0, [], [], []⟩, some o1)) := hid_of (by
    rw [rrF, hk, if_neg (by rw [hs1]; simp), if_neg (by decide : ¬(9 = 2 ∨ 9 = 3)), if_neg (by decide : ¬(9 = 4 ∨ 9 = 8)), if_neg (by decide : ¬(9 = 5)), if_neg (by decide : ¬(9 = 6)), if_neg (by decide : ¬(9 = 7)), if_neg (by decide : ¬(9 = 10)), hs1]
    try rfl)
  rw [EE.out]
  show Calls Try.prog 31 #[.pointer (some ⟨b, 0, none⟩), .int .i64 dep] w (RdP b g d ⟨9, 0, 0, [], [], []⟩ (some o1) w)
  have S0 : Hid (RS b g d w (w.heap.size + 1) (.int .i64 0) (.int .i64 0) (.int .i64 0) (.slice none 0 0) (.slice none 0 0) (.slice none 0 0) s ((w.alloc (.cells [.int .i64 0, .int .i64 0, .int .i64 0, .slice none 0 0, .slice none 0 0, .slice none 0 0].toArray 26 (0, 0))).alloc (.cells [.int .i64 0, .int .i64 0, .int .i64 0, .slice none 0 0, .slice none 0 0, .slice none 0 0].toArray 26 (0, 0)))) := hid_of (RS.start h rfl)
  have C0 : Hid (Calls Try.prog 57 #[.pointer (some ⟨b, 0, none⟩)] ((w.alloc (.cells [.int .i64 0, .int .i64 0, .int .i64 0, .slice none 0 0, .slice none 0 0, .slice none 0 0].toArray 26 (0, 0))).alloc (.cells [.int .i64 0, .int .i64 0, .int .i64 0, .slice none 0 0, .slice none 0 0, .slice none 0 0].toArray 26 (0, 0))) (fun e w' => e = .returned (.int .u64 9) ∧ RG b g d ((w.alloc (.cells [.int .i64 0, .int .i64 0, .int .i64 0, .slice none 0 0, .slice none 0 0, .slice none 0 0].toArray 26 (0, 0))).alloc (.cells [.int .i64 0, .int .i64 0, .int .i64 0, .slice none 0 0, .slice none 0 0, .slice none 0 0].toArray 26 (0, 0))) w' (some o1))) := hid_of (by
    have h1 := uint_rg (RG.start S0.out.rg.st)
    rw [hk, hs1] at h1
    exact h1)
  clear hdep h hk hs1 hsm h6 hgn
  go_enter Try.func31, Try.ntmps31
  go_wp2_with (go_at_call 57; ((with_reducible refine (C0.out).mono ?_); (rintro e w1 ⟨rfl, q1⟩)); have R0 := hid_of (S0.out.call q1); clear q1; have b3 : w1.cell? ⟨b, 3, none⟩ = some (.bool false) := R0.out.rg.st.bad.1; obtain ⟨p0, p1, p2, p3, p4, p5⟩ := R0.out.cells; have f0 := R0.out.free 0; have R1 := hid_of (R0.out.set 0 (.int .i64 9) rfl); obtain ⟨r0, r1, r2, r3, r4, r5⟩ := R1.out.cells)
  go_loopw [8] (fun iv wr => iv = .int .i64 0 ∧ Hid (RS b g d w (w.heap.size + 1) (.int .i64 9) (.int .i64 0) (.int .i64 0) (.slice none 0 0) (.slice none 0 0) (.slice none 0 0) (some o1) wr)) (fun _ _ => 0)
  case atStart => exact ⟨rfl, R1⟩
  case round =>
    obtain ⟨rfl, hk⟩ := hrel
    obtain ⟨y0, y1, y2, y3, y4, y5⟩ := hk.out.cells
    go_wp2_with (refine wpList_store_row rfl 26 (.tmp 4) (.tmp 130) rfl w.heap.size #[.int .i64 9, .int .i64 0, .int .i64 0, .slice none 0 0, .slice none 0 0, .slice none 0 0] rfl rfl 26 _ hk.out.res infoLat rfl (by simp [Value.oneCell']) ?_)
    refine bodyPost_ret (results_cell_row rfl _ _ w.heap.size 26 #[.int .i64 9, .int .i64 0, .int .i64 0, .slice none 0 0, .slice none 0 0, .slice none 0 0] (0, 0) _ rfl (setRow_heap _ _ _ _ _ _ hk.out.res) Try.underlying26 rfl infoLat) rfl ?_
    exact RS.fin (t := ⟨9, 0, 0, [], [], []⟩) hk.out ⟨⟨by simp only [Lat.k]; omega, by simp only [Lat.k]; omega⟩, ⟨by simp only [Lat.lo]; omega, by simp only [Lat.lo]; omega⟩, ⟨by simp only [Lat.hi]; omega, by simp only [Lat.hi]; omega⟩⟩ (fun y hy => by simp [Lat.ns] at hy) (fun y hy => by simp [Lat.rs] at hy) (ns_nil _ _) (ps_nil _ _) (rus_nil _ _) _ rfl
theorem rz_2 (hdep : dep = (n : Int) + 1 ∧ n ≤ 5) (h6 : d.length ≤ 1000000) (h : IS w b g.ao g.n g.cap d s) (hk : (Wr.uR d s).1 = 2) (o1 : Nat) (hs1 : (Wr.uR d s).2 = some o1) :
    Calls Try.prog 31 #[.pointer (some ⟨b, 0, none⟩), .int .i64 dep] w (RdP b g d (rrF d (n + 1) s).1 (rrF d (n + 1) s).2 w) := by
  have HBG : Hid (b < w.heap.size) := hid_of h.bad.2.1
  have hgn : g.n = d.length := h.bad.2.2.2.symm
  have hsm : d.length ≤ 1000000 := h6
  have hdd : decide (dep < 1) = false := by simp; omega
  have hdw : IntKind.i64.wrap (dep - 1) = (n : Int) := by rw [IntWalk.i64_in _ (by omega)]; omega
  obtain ⟨lo, hlo⟩ : ∃ lo, lo = (Wr.iR d (some o1)).1 := ⟨_, rfl⟩
  obtain ⟨s2, hs2⟩ : ∃ s2, s2 = (Wr.iR d (some o1)).2 := ⟨_, rfl⟩
  obtain ⟨hi, hhi⟩ : ∃ hi, hi = (Wr.iR d s2).1 := ⟨_, rfl⟩
  obtain ⟨s3, hs3⟩ : ∃ s3, s3 = (Wr.iR d s2).2 := ⟨_, rfl⟩
  have EE : Hid (rrF d (n + 1) s = (⟨2, lo, hi, [], [], []⟩, s3)) := hid_of (by
    rw [rrF, hk, if_neg (by rw [hs1]; simp), if_pos (by decide : 2 = 2 ∨ 2 = 3), hs1, ← hs2, ← hlo, ← hhi, ← hs3]
    try rfl)
  rw [EE.out]
  show Calls Try.prog 31 #[.pointer (some ⟨b, 0, none⟩), .int .i64 dep] w (RdP b g d ⟨2, lo, hi, [], [], []⟩ (s3) w)
  have S0 : Hid (RS b g d w (w.heap.size + 1) (.int .i64 0) (.int .i64 0) (.int .i64 0) (.slice none 0 0) (.slice none 0 0) (.slice none 0 0) s ((w.alloc (.cells [.int .i64 0, .int .i64 0, .int .i64 0, .slice none 0 0, .slice none 0 0, .slice none 0 0].toArray 26 (0, 0))).alloc (.cells [.int .i64 0, .int .i64 0, .int .i64 0, .slice none 0 0, .slice none 0 0, .slice none 0 0].toArray 26 (0, 0)))) := hid_of (RS.start h rfl)
  have C0 : Hid (Calls Try.prog 57 #[.pointer (some ⟨b, 0, none⟩)] ((w.alloc (.cells [.int .i64 0, .int .i64 0, .int .i64 0, .slice none 0 0, .slice none 0 0, .slice none 0 0].toArray 26 (0, 0))).alloc (.cells [.int .i64 0, .int .i64 0, .int .i64 0, .slice none 0 0, .slice none 0 0, .slice none 0 0].toArray 26 (0, 0))) (fun e w' => e = .returned (.int .u64 2) ∧ RG b g d ((w.alloc (.cells [.int .i64 0, .int .i64 0, .int .i64 0, .slice none 0 0, .slice none 0 0, .slice none 0 0].toArray 26 (0, 0))).alloc (.cells [.int .i64 0, .int .i64 0, .int .i64 0, .slice none 0 0, .slice none 0 0, .slice none 0 0].toArray 26 (0, 0))) w' (some o1))) := hid_of (by
    have h1 := uint_rg (RG.start S0.out.rg.st)
    rw [hk, hs1] at h1
    exact h1)
  have CI1 : Hid (∀ wa w1, RG b g d wa w1 (some o1) → Calls Try.prog 59 #[.pointer (some ⟨b, 0, none⟩)] w1 fun e w' => e = .returned (.int .i64 lo) ∧ RG b g d w1 w' s2) := hid_of (fun wa w1 k => by rw [hlo, hs2]; exact int_rg k)
  have CI2 : Hid (∀ wa w1, RG b g d wa w1 s2 → Calls Try.prog 59 #[.pointer (some ⟨b, 0, none⟩)] w1 fun e w' => e = .returned (.int .i64 hi) ∧ RG b g d w1 w' s3) := hid_of (fun wa w1 k => by rw [hhi, hs3]; exact int_rg k)
  have HR1 : Hid (∀ W, IS W b g.ao g.n g.cap d (some o1) → R64 lo) := hid_of (fun W k => by rw [hlo]; exact iR_r64 k)
  have HR2 : Hid (∀ W, IS W b g.ao g.n g.cap d s2 → R64 hi) := hid_of (fun W k => by rw [hhi]; exact iR_r64 k)
  clear hdep h hk hs1 hs2 hs3 hlo hhi hsm h6 hgn
  go_enter Try.func31, Try.ntmps31
  go_wp2_with (first
    | (go_at_call 57; ((with_reducible refine (C0.out).mono ?_); (rintro e w1 ⟨rfl, q1⟩)); have R0 := hid_of (S0.out.call q1); clear q1; have b3 : w1.cell? ⟨b, 3, none⟩ = some (.bool false) := R0.out.rg.st.bad.1; obtain ⟨p0, p1, p2, p3, p4, p5⟩ := R0.out.cells; have f0 := R0.out.free 0; have R1 := hid_of (R0.out.set 0 (.int .i64 2) rfl); obtain ⟨r0, r1, r2, r3, r4, r5⟩ := R1.out.cells)
    | (go_at_call 59; ((with_reducible refine (CI1.out _ _ R1.out.rg).mono ?_); (rintro e w2 ⟨rfl, q1⟩)); have R2 := hid_of (R1.out.call q1); clear q1; have R3 := hid_of (R2.out.set 1 (.int .i64 lo) rfl); obtain ⟨z0, z1, z2, z3, z4, z5⟩ := R2.out.cells; have f1 := R2.out.free 1)
    | (go_at_call 59; ((with_reducible refine (CI2.out _ _ R3.out.rg).mono ?_); (rintro e w3 ⟨rfl, q1⟩)); have R4 := hid_of (R3.out.call q1); clear q1; have R5 := hid_of (R4.out.set 2 (.int .i64 hi) rfl); obtain ⟨v0, v1, v2, v3, v4, v5⟩ := R4.out.cells; have f2 := R4.out.free 2; obtain ⟨u0, u1, u2, u3, u4, u5⟩ := R5.out.cells))
  go_loopw [8] (fun iv wr => iv = .int .i64 0 ∧ Hid (RS b g d w (w.heap.size + 1) (.int .i64 2) (.int .i64 lo) (.int .i64 hi) (.slice none 0 0) (.slice none 0 0) (.slice none 0 0) s3 wr)) (fun _ _ => 0)
  case atStart => exact ⟨rfl, R5⟩
  case round =>
    obtain ⟨rfl, hk⟩ := hrel
    obtain ⟨y0, y1, y2, y3, y4, y5⟩ := hk.out.cells
    go_wp2_with (refine wpList_store_row rfl 26 (.tmp 4) (.tmp 130) rfl w.heap.size #[.int .i64 2, .int .i64 lo, .int .i64 hi, .slice none 0 0, .slice none 0 0, .slice none 0 0] rfl rfl 26 _ hk.out.res infoLat rfl (by simp [Value.oneCell']) ?_)
    refine bodyPost_ret (results_cell_row rfl _ _ w.heap.size 26 #[.int .i64 2, .int .i64 lo, .int .i64 hi, .slice none 0 0, .slice none 0 0, .slice none 0 0] (0, 0) _ rfl (setRow_heap _ _ _ _ _ _ hk.out.res) Try.underlying26 rfl infoLat) rfl ?_
    exact RS.fin (t := ⟨2, lo, hi, [], [], []⟩) hk.out ⟨⟨by simp only [Lat.k]; omega, by simp only [Lat.k]; omega⟩, HR1.out _ R1.out.rg.st, HR2.out _ R3.out.rg.st⟩ (fun y hy => by simp [Lat.ns] at hy) (fun y hy => by simp [Lat.rs] at hy) (ns_nil _ _) (ps_nil _ _) (rus_nil _ _) _ rfl
theorem rz_3 (hdep : dep = (n : Int) + 1 ∧ n ≤ 5) (h6 : d.length ≤ 1000000) (h : IS w b g.ao g.n g.cap d s) (hk : (Wr.uR d s).1 = 3) (o1 : Nat) (hs1 : (Wr.uR d s).2 = some o1) :
    Calls Try.prog 31 #[.pointer (some ⟨b, 0, none⟩), .int .i64 dep] w (RdP b g d (rrF d (n + 1) s).1 (rrF d (n + 1) s).2 w) := by
  have HBG : Hid (b < w.heap.size) := hid_of h.bad.2.1
  have hgn : g.n = d.length := h.bad.2.2.2.symm
  have hsm : d.length ≤ 1000000 := h6
  have hdd : decide (dep < 1) = false := by simp; omega
  have hdw : IntKind.i64.wrap (dep - 1) = (n : Int) := by rw [IntWalk.i64_in _ (by omega)]; omega
  obtain ⟨lo, hlo⟩ : ∃ lo, lo = (Wr.iR d (some o1)).1 := ⟨_, rfl⟩
  obtain ⟨s2, hs2⟩ : ∃ s2, s2 = (Wr.iR d (some o1)).2 := ⟨_, rfl⟩
  obtain ⟨hi, hhi⟩ : ∃ hi, hi = (Wr.iR d s2).1 := ⟨_, rfl⟩
  obtain ⟨s3, hs3⟩ : ∃ s3, s3 = (Wr.iR d s2).2 := ⟨_, rfl⟩
  have EE : Hid (rrF d (n + 1) s = (⟨3, lo, hi, [], [], []⟩, s3)) := hid_of (by
    rw [rrF, hk, if_neg (by rw [hs1]; simp), if_pos (by decide : 3 = 2 ∨ 3 = 3), hs1, ← hs2, ← hlo, ← hhi, ← hs3]
    try rfl)
  rw [EE.out]
  show Calls Try.prog 31 #[.pointer (some ⟨b, 0, none⟩), .int .i64 dep] w (RdP b g d ⟨3, lo, hi, [], [], []⟩ (s3) w)
  have S0 : Hid (RS b g d w (w.heap.size + 1) (.int .i64 0) (.int .i64 0) (.int .i64 0) (.slice none 0 0) (.slice none 0 0) (.slice none 0 0) s ((w.alloc (.cells [.int .i64 0, .int .i64 0, .int .i64 0, .slice none 0 0, .slice none 0 0, .slice none 0 0].toArray 26 (0, 0))).alloc (.cells [.int .i64 0, .int .i64 0, .int .i64 0, .slice none 0 0, .slice none 0 0, .slice none 0 0].toArray 26 (0, 0)))) := hid_of (RS.start h rfl)
  have C0 : Hid (Calls Try.prog 57 #[.pointer (some ⟨b, 0, none⟩)] ((w.alloc (.cells [.int .i64 0, .int .i64 0, .int .i64 0, .slice none 0 0, .slice none 0 0, .slice none 0 0].toArray 26 (0, 0))).alloc (.cells [.int .i64 0, .int .i64 0, .int .i64 0, .slice none 0 0, .slice none 0 0, .slice none 0 0].toArray 26 (0, 0))) (fun e w' => e = .returned (.int .u64 3) ∧ RG b g d ((w.alloc (.cells [.int .i64 0, .int .i64 0, .int .i64 0, .slice none 0 0, .slice none 0 0, .slice none 0 0].toArray 26 (0, 0))).alloc (.cells [.int .i64 0, .int .i64 0, .int .i64 0, .slice none 0 0, .slice none 0 0, .slice none 0 0].toArray 26 (0, 0))) w' (some o1))) := hid_of (by
    have h1 := uint_rg (RG.start S0.out.rg.st)
    rw [hk, hs1] at h1
    exact h1)
  have CI1 : Hid (∀ wa w1, RG b g d wa w1 (some o1) → Calls Try.prog 59 #[.pointer (some ⟨b, 0, none⟩)] w1 fun e w' => e = .returned (.int .i64 lo) ∧ RG b g d w1 w' s2) := hid_of (fun wa w1 k => by rw [hlo, hs2]; exact int_rg k)
  have CI2 : Hid (∀ wa w1, RG b g d wa w1 s2 → Calls Try.prog 59 #[.pointer (some ⟨b, 0, none⟩)] w1 fun e w' => e = .returned (.int .i64 hi) ∧ RG b g d w1 w' s3) := hid_of (fun wa w1 k => by rw [hhi, hs3]; exact int_rg k)
  have HR1 : Hid (∀ W, IS W b g.ao g.n g.cap d (some o1) → R64 lo) := hid_of (fun W k => by rw [hlo]; exact iR_r64 k)
  have HR2 : Hid (∀ W, IS W b g.ao g.n g.cap d s2 → R64 hi) := hid_of (fun W k => by rw [hhi]; exact iR_r64 k)
  clear hdep h hk hs1 hs2 hs3 hlo hhi hsm h6 hgn
  go_enter Try.func31, Try.ntmps31
  go_wp2_with (first
    | (go_at_call 57; ((with_reducible refine (C0.out).mono ?_); (rintro e w1 ⟨rfl, q1⟩)); have R0 := hid_of (S0.out.call q1); clear q1; have b3 : w1.cell? ⟨b, 3, none⟩ = some (.bool false) := R0.out.rg.st.bad.1; obtain ⟨p0, p1, p2, p3, p4, p5⟩ := R0.out.cells; have f0 := R0.out.free 0; have R1 := hid_of (R0.out.set 0 (.int .i64 3) rfl); obtain ⟨r0, r1, r2, r3, r4, r5⟩ := R1.out.cells)
    | (go_at_call 59; ((with_reducible refine (CI1.out _ _ R1.out.rg).mono ?_); (rintro e w2 ⟨rfl, q1⟩)); have R2 := hid_of (R1.out.call q1); clear q1; have R3 := hid_of (R2.out.set 1 (.int .i64 lo) rfl); obtain ⟨z0, z1, z2, z3, z4, z5⟩ := R2.out.cells; have f1 := R2.out.free 1)
    | (go_at_call 59; ((with_reducible refine (CI2.out _ _ R3.out.rg).mono ?_); (rintro e w3 ⟨rfl, q1⟩)); have R4 := hid_of (R3.out.call q1); clear q1; have R5 := hid_of (R4.out.set 2 (.int .i64 hi) rfl); obtain ⟨v0, v1, v2, v3, v4, v5⟩ := R4.out.cells; have f2 := R4.out.free 2; obtain ⟨u0, u1, u2, u3, u4, u5⟩ := R5.out.cells))
  go_loopw [8] (fun iv wr => iv = .int .i64 0 ∧ Hid (RS b g d w (w.heap.size + 1) (.int .i64 3) (.int .i64 lo) (.int .i64 hi) (.slice none 0 0) (.slice none 0 0) (.slice none 0 0) s3 wr)) (fun _ _ => 0)
  case atStart => exact ⟨rfl, R5⟩
  case round =>
    obtain ⟨rfl, hk⟩ := hrel
    obtain ⟨y0, y1, y2, y3, y4, y5⟩ := hk.out.cells
    go_wp2_with (refine wpList_store_row rfl 26 (.tmp 4) (.tmp 130) rfl w.heap.size #[.int .i64 3, .int .i64 lo, .int .i64 hi, .slice none 0 0, .slice none 0 0, .slice none 0 0] rfl rfl 26 _ hk.out.res infoLat rfl (by simp [Value.oneCell']) ?_)
    refine bodyPost_ret (results_cell_row rfl _ _ w.heap.size 26 #[.int .i64 3, .int .i64 lo, .int .i64 hi, .slice none 0 0, .slice none 0 0, .slice none 0 0] (0, 0) _ rfl (setRow_heap _ _ _ _ _ _ hk.out.res) Try.underlying26 rfl infoLat) rfl ?_
    exact RS.fin (t := ⟨3, lo, hi, [], [], []⟩) hk.out ⟨⟨by simp only [Lat.k]; omega, by simp only [Lat.k]; omega⟩, HR1.out _ R1.out.rg.st, HR2.out _ R3.out.rg.st⟩ (fun y hy => by simp [Lat.ns] at hy) (fun y hy => by simp [Lat.rs] at hy) (ns_nil _ _) (ps_nil _ _) (rus_nil _ _) _ rfl
theorem rz_4 (hdep : dep = (n : Int) + 1 ∧ n ≤ 5) (h6 : d.length ≤ 1000000) (h : IS w b g.ao g.n g.cap d s) (hk : (Wr.uR d s).1 = 4) (o1 : Nat) (hs1 : (Wr.uR d s).2 = some o1) :
    Calls Try.prog 31 #[.pointer (some ⟨b, 0, none⟩), .int .i64 dep] w (RdP b g d (rrF d (n + 1) s).1 (rrF d (n + 1) s).2 w) := by
  have HBG : Hid (b < w.heap.size) := hid_of h.bad.2.1
  have hgn : g.n = d.length := h.bad.2.2.2.symm
  have hsm : d.length ≤ 1000000 := h6
  have hdd : decide (dep < 1) = false := by simp; omega
  have hdw : IntKind.i64.wrap (dep - 1) = (n : Int) := by rw [IntWalk.i64_in _ (by omega)]; omega
  obtain ⟨ns, hns⟩ : ∃ ns, ns = (rlF d (some o1)).1 := ⟨_, rfl⟩
  obtain ⟨s2, hs2⟩ : ∃ s2, s2 = (rlF d (some o1)).2 := ⟨_, rfl⟩
  have HON : Hid (Ok ns) := hid_of (fun y hy => by have := (rlF_small d (some o1)).1 y (by rw [← hns]; exact hy); omega)
  have EE : Hid (rrF d (n + 1) s = (⟨4, 0, 0, ns, [], []⟩, s2)) := hid_of (by
    rw [rrF, hk, if_neg (by rw [hs1]; simp), if_neg (by decide : ¬(4 = 2 ∨ 4 = 3)), if_pos (by decide : 4 = 4 ∨ 4 = 8), hs1, ← hns, ← hs2]
    try rfl)
  rw [EE.out]
  show Calls Try.prog 31 #[.pointer (some ⟨b, 0, none⟩), .int .i64 dep] w (RdP b g d ⟨4, 0, 0, ns, [], []⟩ (s2) w)
  have S0 : Hid (RS b g d w (w.heap.size + 1) (.int .i64 0) (.int .i64 0) (.int .i64 0) (.slice none 0 0) (.slice none 0 0) (.slice none 0 0) s ((w.alloc (.cells [.int .i64 0, .int .i64 0, .int .i64 0, .slice none 0 0, .slice none 0 0, .slice none 0 0].toArray 26 (0, 0))).alloc (.cells [.int .i64 0, .int .i64 0, .int .i64 0, .slice none 0 0, .slice none 0 0, .slice none 0 0].toArray 26 (0, 0)))) := hid_of (RS.start h rfl)
  have C0 : Hid (Calls Try.prog 57 #[.pointer (some ⟨b, 0, none⟩)] ((w.alloc (.cells [.int .i64 0, .int .i64 0, .int .i64 0, .slice none 0 0, .slice none 0 0, .slice none 0 0].toArray 26 (0, 0))).alloc (.cells [.int .i64 0, .int .i64 0, .int .i64 0, .slice none 0 0, .slice none 0 0, .slice none 0 0].toArray 26 (0, 0))) (fun e w' => e = .returned (.int .u64 4) ∧ RG b g d ((w.alloc (.cells [.int .i64 0, .int .i64 0, .int .i64 0, .slice none 0 0, .slice none 0 0, .slice none 0 0].toArray 26 (0, 0))).alloc (.cells [.int .i64 0, .int .i64 0, .int .i64 0, .slice none 0 0, .slice none 0 0, .slice none 0 0].toArray 26 (0, 0))) w' (some o1))) := hid_of (by
    have h1 := uint_rg (RG.start S0.out.rg.st)
    rw [hk, hs1] at h1
    exact h1)
  have CN : Hid (∀ wa w2, RG b g d wa w2 (some o1) → Calls Try.prog 60 #[.pointer (some ⟨b, 0, none⟩)] w2 (NaP b g d ns s2 w2)) := hid_of (fun wa w2 k => by rw [hns, hs2]; exact list_rg k (by omega))
  clear hdep h hk hs1 hns hs2 hsm h6 hgn
  go_enter Try.func31, Try.ntmps31
  go_wp2_with (first
    | (go_at_call 57; ((with_reducible refine (C0.out).mono ?_); (rintro e w1 ⟨rfl, q1⟩)); have R0 := hid_of (S0.out.call q1); clear q1; have b3 : w1.cell? ⟨b, 3, none⟩ = some (.bool false) := R0.out.rg.st.bad.1; obtain ⟨p0, p1, p2, p3, p4, p5⟩ := R0.out.cells; have f0 := R0.out.free 0; have R1 := hid_of (R0.out.set 0 (.int .i64 4) rfl); obtain ⟨r0, r1, r2, r3, r4, r5⟩ := R1.out.cells)
    | (go_at_call 60; ((with_reducible refine (CN.out _ _ R1.out.rg).mono ?_); (rintro e w2 ⟨xo, xc, rfl, q1, q2, q3⟩)); have R2 := hid_of (R1.out.call q3); have N2 := hid_of (ns_mk (T := Bh (w.heap.size + 1) w2) q1 q2 (fun k hk => ⟨Nat.lt_of_lt_of_le R1.out.hp.2 hk.1, hk.2⟩)); clear q1 q2 q3; have R3 := hid_of (R2.out.set 3 (.slice xo ns.length xc) rfl); have N3 := hid_of (N2.out.setBox 3 (.slice xo ns.length xc)); obtain ⟨z0, z1, z2, z3, z4, z5⟩ := R2.out.cells; have f3 := R2.out.free 3; obtain ⟨v0, v1, v2, v3, v4, v5⟩ := R3.out.cells))
  go_loopw [8] (fun iv wr => iv = .int .i64 0 ∧ Hid (RS b g d w (w.heap.size + 1) (.int .i64 4) (.int .i64 0) (.int .i64 0) (.slice xo ns.length xc) (.slice none 0 0) (.slice none 0 0) s2 wr) ∧ Hid (NS (Bh (w.heap.size + 1) wr) wr (.slice xo ns.length xc) ns)) (fun _ _ => 0)
  case atStart => exact ⟨rfl, R3, N3⟩
  case round =>
    obtain ⟨rfl, hk, hn⟩ := hrel
    obtain ⟨y0, y1, y2, y3, y4, y5⟩ := hk.out.cells
    go_wp2_with (refine wpList_store_row rfl 26 (.tmp 4) (.tmp 130) rfl w.heap.size #[.int .i64 4, .int .i64 0, .int .i64 0, .slice xo ns.length xc, .slice none 0 0, .slice none 0 0] rfl rfl 26 _ hk.out.res infoLat rfl (by simp [Value.oneCell']) ?_)
    refine bodyPost_ret (results_cell_row rfl _ _ w.heap.size 26 #[.int .i64 4, .int .i64 0, .int .i64 0, .slice xo ns.length xc, .slice none 0 0, .slice none 0 0] (0, 0) _ rfl (setRow_heap _ _ _ _ _ _ hk.out.res) Try.underlying26 rfl infoLat) rfl ?_
    exact RS.fin (t := ⟨4, 0, 0, ns, [], []⟩) hk.out ⟨⟨by simp only [Lat.k]; omega, by simp only [Lat.k]; omega⟩, ⟨by simp only [Lat.lo]; omega, by simp only [Lat.lo]; omega⟩, ⟨by simp only [Lat.hi]; omega, by simp only [Lat.hi]; omega⟩⟩ HON.out (fun y hy => by simp [Lat.rs] at hy) (hn.out) (ps_nil _ _) (rus_nil _ _) _ rfl
theorem rz_8 (hdep : dep = (n : Int) + 1 ∧ n ≤ 5) (h6 : d.length ≤ 1000000) (h : IS w b g.ao g.n g.cap d s) (hk : (Wr.uR d s).1 = 8) (o1 : Nat) (hs1 : (Wr.uR d s).2 = some o1) :
    Calls Try.prog 31 #[.pointer (some ⟨b, 0, none⟩), .int .i64 dep] w (RdP b g d (rrF d (n + 1) s).1 (rrF d (n + 1) s).2 w) := by
  have HBG : Hid (b < w.heap.size) := hid_of h.bad.2.1
  have hgn : g.n = d.length := h.bad.2.2.2.symm
  have hsm : d.length ≤ 1000000 := h6
  have hdd : decide (dep < 1) = false := by simp; omega
  have hdw : IntKind.i64.wrap (dep - 1) = (n : Int) := by rw [IntWalk.i64_in _ (by omega)]; omega
  obtain ⟨ns, hns⟩ : ∃ ns, ns = (rlF d (some o1)).1 := ⟨_, rfl⟩
  obtain ⟨s2, hs2⟩ : ∃ s2, s2 = (rlF d (some o1)).2 := ⟨_, rfl⟩
  have HON : Hid (Ok ns) := hid_of (fun y hy => by have := (rlF_small d (some o1)).1 y (by rw [← hns]; exact hy); omega)
  have EE : Hid (rrF d (n + 1) s = (⟨8, 0, 0, ns, [], []⟩, s2)) := hid_of (by
    rw [rrF, hk, if_neg (by rw [hs1]; simp), if_neg (by decide : ¬(8 = 2 ∨ 8 = 3)), if_pos (by decide : 8 = 4 ∨ 8 = 8), hs1, ← hns, ← hs2]
    try rfl)
  rw [EE.out]
  show Calls Try.prog 31 #[.pointer (some ⟨b, 0, none⟩), .int .i64 dep] w (RdP b g d ⟨8, 0, 0, ns, [], []⟩ (s2) w)
  have S0 : Hid (RS b g d w (w.heap.size + 1) (.int .i64 0) (.int .i64 0) (.int .i64 0) (.slice none 0 0) (.slice none 0 0) (.slice none 0 0) s ((w.alloc (.cells [.int .i64 0, .int .i64 0, .int .i64 0, .slice none 0 0, .slice none 0 0, .slice none 0 0].toArray 26 (0, 0))).alloc (.cells [.int .i64 0, .int .i64 0, .int .i64 0, .slice none 0 0, .slice none 0 0, .slice none 0 0].toArray 26 (0, 0)))) := hid_of (RS.start h rfl)
  have C0 : Hid (Calls Try.prog 57 #[.pointer (some ⟨b, 0, none⟩)] ((w.alloc (.cells [.int .i64 0, .int .i64 0, .int .i64 0, .slice none 0 0, .slice none 0 0, .slice none 0 0].toArray 26 (0, 0))).alloc (.cells [.int .i64 0, .int .i64 0, .int .i64 0, .slice none 0 0, .slice none 0 0, .slice none 0 0].toArray 26 (0, 0))) (fun e w' => e = .returned (.int .u64 8) ∧ RG b g d ((w.alloc (.cells [.int .i64 0, .int .i64 0, .int .i64 0, .slice none 0 0, .slice none 0 0, .slice none 0 0].toArray 26 (0, 0))).alloc (.cells [.int .i64 0, .int .i64 0, .int .i64 0, .slice none 0 0, .slice none 0 0, .slice none 0 0].toArray 26 (0, 0))) w' (some o1))) := hid_of (by
    have h1 := uint_rg (RG.start S0.out.rg.st)
    rw [hk, hs1] at h1
    exact h1)
  have CN : Hid (∀ wa w2, RG b g d wa w2 (some o1) → Calls Try.prog 60 #[.pointer (some ⟨b, 0, none⟩)] w2 (NaP b g d ns s2 w2)) := hid_of (fun wa w2 k => by rw [hns, hs2]; exact list_rg k (by omega))
  clear hdep h hk hs1 hns hs2 hsm h6 hgn
  go_enter Try.func31, Try.ntmps31
  go_wp2_with (first
    | (go_at_call 57; ((with_reducible refine (C0.out).mono ?_); (rintro e w1 ⟨rfl, q1⟩)); have R0 := hid_of (S0.out.call q1); clear q1; have b3 : w1.cell? ⟨b, 3, none⟩ = some (.bool false) := R0.out.rg.st.bad.1; obtain ⟨p0, p1, p2, p3, p4, p5⟩ := R0.out.cells; have f0 := R0.out.free 0; have R1 := hid_of (R0.out.set 0 (.int .i64 8) rfl); obtain ⟨r0, r1, r2, r3, r4, r5⟩ := R1.out.cells)
    | (go_at_call 60; ((with_reducible refine (CN.out _ _ R1.out.rg).mono ?_); (rintro e w2 ⟨xo, xc, rfl, q1, q2, q3⟩)); have R2 := hid_of (R1.out.call q3); have N2 := hid_of (ns_mk (T := Bh (w.heap.size + 1) w2) q1 q2 (fun k hk => ⟨Nat.lt_of_lt_of_le R1.out.hp.2 hk.1, hk.2⟩)); clear q1 q2 q3; have R3 := hid_of (R2.out.set 3 (.slice xo ns.length xc) rfl); have N3 := hid_of (N2.out.setBox 3 (.slice xo ns.length xc)); obtain ⟨z0, z1, z2, z3, z4, z5⟩ := R2.out.cells; have f3 := R2.out.free 3; obtain ⟨v0, v1, v2, v3, v4, v5⟩ := R3.out.cells))
  go_loopw [8] (fun iv wr => iv = .int .i64 0 ∧ Hid (RS b g d w (w.heap.size + 1) (.int .i64 8) (.int .i64 0) (.int .i64 0) (.slice xo ns.length xc) (.slice none 0 0) (.slice none 0 0) s2 wr) ∧ Hid (NS (Bh (w.heap.size + 1) wr) wr (.slice xo ns.length xc) ns)) (fun _ _ => 0)
  case atStart => exact ⟨rfl, R3, N3⟩
  case round =>
    obtain ⟨rfl, hk, hn⟩ := hrel
    obtain ⟨y0, y1, y2, y3, y4, y5⟩ := hk.out.cells
    go_wp2_with (refine wpList_store_row rfl 26 (.tmp 4) (.tmp 130) rfl w.heap.size #[.int .i64 8, .int .i64 0, .int .i64 0, .slice xo ns.length xc, .slice none 0 0, .slice none 0 0] rfl rfl 26 _ hk.out.res infoLat rfl (by simp [Value.oneCell']) ?_)
    refine bodyPost_ret (results_cell_row rfl _ _ w.heap.size 26 #[.int .i64 8, .int .i64 0, .int .i64 0, .slice xo ns.length xc, .slice none 0 0, .slice none 0 0] (0, 0) _ rfl (setRow_heap _ _ _ _ _ _ hk.out.res) Try.underlying26 rfl infoLat) rfl ?_
    exact RS.fin (t := ⟨8, 0, 0, ns, [], []⟩) hk.out ⟨⟨by simp only [Lat.k]; omega, by simp only [Lat.k]; omega⟩, ⟨by simp only [Lat.lo]; omega, by simp only [Lat.lo]; omega⟩, ⟨by simp only [Lat.hi]; omega, by simp only [Lat.hi]; omega⟩⟩ HON.out (fun y hy => by simp [Lat.rs] at hy) (hn.out) (ps_nil _ _) (rus_nil _ _) _ rfl
theorem rz_5 (hdep : dep = (n : Int) + 1 ∧ n ≤ 5) (h6 : d.length ≤ 1000000) (h : IS w b g.ao g.n g.cap d s) (hk : (Wr.uR d s).1 = 5) (o1 : Nat) (hs1 : (Wr.uR d s).2 = some o1) (IH : RQ b g d n) :
    Calls Try.prog 31 #[.pointer (some ⟨b, 0, none⟩), .int .i64 dep] w (RdP b g d (rrF d (n + 1) s).1 (rrF d (n + 1) s).2 w) := by
  have HBG : Hid (b < w.heap.size) := hid_of h.bad.2.1
  have hgn : g.n = d.length := h.bad.2.2.2.symm
  have hsm : d.length ≤ 1000000 := h6
  have hdd : decide (dep < 1) = false := by simp; omega
  have hdw : IntKind.i64.wrap (dep - 1) = (n : Int) := by rw [IntWalk.i64_in _ (by omega)]; omega
  obtain ⟨ns, hns⟩ : ∃ ns, ns = (rlF d (some o1)).1 := ⟨_, rfl⟩
  obtain ⟨s2, hs2⟩ : ∃ s2, s2 = (rlF d (some o1)).2 := ⟨_, rfl⟩
  have HON : Hid (Ok ns) := hid_of (fun y hy => by have := (rlF_small d (some o1)).1 y (by rw [← hns]; exact hy); omega)
  obtain ⟨f, hf⟩ : ∃ f, f = rrF d n := ⟨_, rfl⟩
  obtain ⟨m, hm⟩ : ∃ m : Nat, m = 1 := ⟨_, rfl⟩
  obtain ⟨ps, hps⟩ : ∃ ps, ps = (oN f s2 m).1 := ⟨_, rfl⟩
  obtain ⟨s3, hs3⟩ : ∃ s3, s3 = (oN f s2 m).2 := ⟨_, rfl⟩
  have HPS := hid_of hps
  have HS3 := hid_of hs3
  have HG : Hid (∀ j, j < m → (∀ i, i ≤ j → (oN f s2 i).2 ≠ none) → ps[j]? = some (f (oN f s2 j).2).1) := hid_of (fun j hj hL => by rw [hps]; exact oN_get f s2 j m hj hL)
  have HD : Hid (∀ j, j ≤ m → (∀ i, i < j → (oN f s2 i).2 ≠ none) → (j < m → (oN f s2 j).2 = none) → (oN f s2 j).2 = s3 ∧ j = ps.length) := hid_of (fun j hj hL hE => by
    have e : oN f s2 m = oN f s2 j := by
      rcases Nat.lt_or_ge j m with h1 | h1
      · have := oN_dead f s2 j (hE h1) (m - j)
        rwa [show j + (m - j) = m by omega] at this
      · rw [show m = j by omega]
    rw [hps, hs3, e, oN_len f s2 j hL]
    exact ⟨rfl, rfl⟩)
  have EE : Hid (rrF d (n + 1) s = (⟨5, 0, 0, ns, ps, []⟩, s3)) := hid_of (by
    rw [rrF, hk, if_neg (by rw [hs1]; simp), if_neg (by decide : ¬(5 = 2 ∨ 5 = 3)), if_neg (by decide : ¬(5 = 4 ∨ 5 = 8)), if_pos (by decide : 5 = 5), hs1, ← hs2, ← hns, ← hf, ← hm, ← hps, ← hs3]
    try rfl)
  rw [EE.out]
  show Calls Try.prog 31 #[.pointer (some ⟨b, 0, none⟩), .int .i64 dep] w (RdP b g d ⟨5, 0, 0, ns, ps, []⟩ (s3) w)
  have S0 : Hid (RS b g d w (w.heap.size + 1) (.int .i64 0) (.int .i64 0) (.int .i64 0) (.slice none 0 0) (.slice none 0 0) (.slice none 0 0) s ((w.alloc (.cells [.int .i64 0, .int .i64 0, .int .i64 0, .slice none 0 0, .slice none 0 0, .slice none 0 0].toArray 26 (0, 0))).alloc (.cells [.int .i64 0, .int .i64 0, .int .i64 0, .slice none 0 0, .slice none 0 0, .slice none 0 0].toArray 26 (0, 0)))) := hid_of (RS.start h rfl)
  have C0 : Hid (Calls Try.prog 57 #[.pointer (some ⟨b, 0, none⟩)] ((w.alloc (.cells [.int .i64 0, .int .i64 0, .int .i64 0, .slice none 0 0, .slice none 0 0, .slice none 0 0].toArray 26 (0, 0))).alloc (.cells [.int .i64 0, .int .i64 0, .int .i64 0, .slice none 0 0, .slice none 0 0, .slice none 0 0].toArray 26 (0, 0))) (fun e w' => e = .returned (.int .u64 5) ∧ RG b g d ((w.alloc (.cells [.int .i64 0, .int .i64 0, .int .i64 0, .slice none 0 0, .slice none 0 0, .slice none 0 0].toArray 26 (0, 0))).alloc (.cells [.int .i64 0, .int .i64 0, .int .i64 0, .slice none 0 0, .slice none 0 0, .slice none 0 0].toArray 26 (0, 0))) w' (some o1))) := hid_of (by
    have h1 := uint_rg (RG.start S0.out.rg.st)
    rw [hk, hs1] at h1
    exact h1)
  have CN : Hid (∀ wa w2, RG b g d wa w2 (some o1) → Calls Try.prog 60 #[.pointer (some ⟨b, 0, none⟩)] w2 (NaP b g d ns s2 w2)) := hid_of (fun wa w2 k => by rw [hns, hs2]; exact list_rg k (by omega))
  have CRF : Hid (∀ st wa w2, RG b g d wa w2 st → Calls Try.prog 31 #[.pointer (some ⟨b, 0, none⟩), .int .i64 (n : Int)] w2 (RdP b g d (f st).1 (f st).2 w2)) := hid_of (fun st wa w2 k => by rw [hf]; exact IH st w2 k.st)
  have hmi : (m : Int) = 1 := by omega
  clear hs2 hns hdep h hk hs1 hf hps hs3 IH hsm h6 hgn
  go_enter Try.func31, Try.ntmps31
  go_wp2_with (first
    | (go_at_call 57; ((with_reducible refine (C0.out).mono ?_); (rintro e w1 ⟨rfl, q1⟩)); have R0 := hid_of (S0.out.call q1); clear q1; have b3 : w1.cell? ⟨b, 3, none⟩ = some (.bool false) := R0.out.rg.st.bad.1; obtain ⟨p0, p1, p2, p3, p4, p5⟩ := R0.out.cells; have f0 := R0.out.free 0; have R1 := hid_of (R0.out.set 0 (.int .i64 5) rfl); obtain ⟨r0, r1, r2, r3, r4, r5⟩ := R1.out.cells)
    | (go_at_call 60; ((with_reducible refine (CN.out _ _ R1.out.rg).mono ?_); (rintro e w2 ⟨xo, xc, rfl, q1, q2, q3⟩)); have R2 := hid_of (R1.out.call q3); have N2 := hid_of (ns_mk (T := Bh (w.heap.size + 1) w2) q1 q2 (fun k hk => ⟨Nat.lt_of_lt_of_le R1.out.hp.2 hk.1, hk.2⟩)); clear q1 q2 q3; have R3 := hid_of (R2.out.set 3 (.slice xo ns.length xc) rfl); have N3 := hid_of (N2.out.setBox 3 (.slice xo ns.length xc)); obtain ⟨z0, z1, z2, z3, z4, z5⟩ := R2.out.cells; have f3 := R2.out.free 3; obtain ⟨v0, v1, v2, v3, v4, v5⟩ := R3.out.cells))
  have L0 := hid_of (lo_start (ps := ps) R3.out N3.out)
  go_loopw [8] (fun iv wr => ∃ (j : Nat) (po : Option Addr) (pc : Nat) (qs : List LX), j ≤ m ∧ iv = .int .i64 j ∧ Hid (∀ i, i < j → (oN f s2 i).2 ≠ none) ∧ Hid (LO b g d w (w.heap.size + 1) 5 ns (.slice xo ns.length xc) ps j po pc qs (oN f s2 j).2 wr)) (fun iv _ => m - (intOf iv).toNat)
  case atStart => exact ⟨0, none, 0, [], Nat.zero_le _, rfl, hid_of (fun i hi => absurd hi (Nat.not_lt_zero i)), L0⟩
  case round =>
    obtain ⟨j, po, pc, qs, hj, rfl, hL, hk⟩ := hrel
    have c3 := hk.out.st.rg.st.bad.1
    obtain ⟨y0, y1, y2, y3, y4, y5⟩ := hk.out.st.cells
    by_cases hlt : j < m
    · have hdd2 : decide ((j : Int) < 1) = true := by simp; omega
      by_cases hal : (oN f s2 j).2 = none
      · have HDE := hid_of (HD.out j hj hL.out (fun _ => hal))
        rw [hal] at c3
        have c3 : wr.cell? ⟨b, 3, none⟩ = some (.bool true) := c3
        have HF : Hid (LO b g d w (w.heap.size + 1) 5 ns (.slice xo ns.length xc) ps ps.length po pc qs s3 wr) := hid_of (by
          have h1 := hk.out
          obtain ⟨e1, e2⟩ := HDE.out
          rw [e1] at h1
          rw [← e2]
          exact h1)
        go_wp2_with (refine wpList_store_row rfl 26 (.tmp 4) (.tmp 130) rfl w.heap.size #[.int .i64 5, .int .i64 0, .int .i64 0, .slice xo ns.length xc, .slice po j pc, .slice none 0 0] rfl rfl 26 _ HF.out.st.res infoLat rfl (by simp [Value.oneCell']) ?_)
        refine bodyPost_ret (results_cell_row rfl _ _ w.heap.size 26 #[.int .i64 5, .int .i64 0, .int .i64 0, .slice xo ns.length xc, .slice po j pc, .slice none 0 0] (0, 0) _ rfl (setRow_heap _ _ _ _ _ _ HF.out.st.res) Try.underlying26 rfl infoLat) rfl ?_
        exact RS.fin (t := ⟨5, 0, 0, ns, ps, []⟩) HF.out.st ⟨⟨by simp only [Lat.k]; omega, by simp only [Lat.k]; omega⟩, ⟨by simp only [Lat.lo]; omega, by simp only [Lat.lo]; omega⟩, ⟨by simp only [Lat.hi]; omega, by simp only [Lat.hi]; omega⟩⟩ HON.out (fun y hy => by simp [Lat.rs] at hy) (HF.out.fin.1) (HF.out.fin.2) (rus_nil _ _) _ (by show _ = Ending.returned (.agg #[.int .i64 5, .int .i64 0, .int .i64 0, .slice xo ns.length xc, .slice po ps.length pc, .slice none 0 0]); rw [← HDE.out.2])
      · obtain ⟨oj, hoj⟩ : ∃ oj, (oN f s2 j).2 = some oj := Option.ne_none_iff_exists'.1 hal
        rw [hoj] at c3
        have c3 : wr.cell? ⟨b, 3, none⟩ = some (.bool false) := c3
        have HL2 : Hid (∀ i, i < j + 1 → (oN f s2 i).2 ≠ none) := hid_of (fun i hi => by rcases Nat.lt_or_ge i j with h1 | h1; exact hL.out i h1; rw [show i = j by omega]; exact hal)
        obtain ⟨u, hu⟩ : ∃ u, u = (f (oN f s2 j).2).1 := ⟨_, rfl⟩
        obtain ⟨t2, ht2⟩ : ∃ t2, t2 = (f (oN f s2 j).2).2 := ⟨_, rfl⟩
        have HU : Hid (ps[j]? = some u) := hid_of (by rw [hu]; exact HG.out j hlt (fun i hi => HL2.out i (by omega)))
        have HNX : Hid (t2 = (oN f s2 (j + 1)).2) := hid_of (by rw [ht2, oN, if_neg hal])
        have J1 := hid_of hk.out.drew
        have CR : Hid (∀ wa w2, RG b g d wa w2 (oN f s2 j).2 → Calls Try.prog 31 #[.pointer (some ⟨b, 0, none⟩), .int .i64 (n : Int)] w2 (RdP b g d u t2 w2)) := hid_of (fun wa w2 k => by rw [hu, ht2]; exact CRF.out _ wa w2 k)
        clear hu ht2 hoj hal
        go_wp2
        go_region_law (first
            | (go_simp; go_at_call 31; ((with_reducible refine (CR.out _ _ J1.out.st.rg).mono ?_); (rintro e w2 ⟨a2, ac2, b2, bc2, c2, cc2, rfl, q1, q2⟩)); have J2 := hid_of (J1.out.call q2); have X2 := hid_of (lo_kid J1.out q2 q1); clear q1 q2; obtain ⟨z0, z1, z2, z3, z4, z5⟩ := J2.out.st.cells; have J3 := hid_of (J2.out.alloc (.cells #[.int .i64 u.k, .int .i64 u.lo, .int .i64 u.hi, .slice a2 u.ns.length ac2, .slice b2 u.ps.length bc2, .slice c2 u.rs.length cc2] 26)); have X3 := hid_of ((X2.out.keep (keeps_alloc _ w2 (.cells #[.int .i64 u.k, .int .i64 u.lo, .int .i64 u.hi, .slice a2 u.ns.length ac2, .slice b2 u.ps.length bc2, .slice c2 u.rs.length cc2] 26))).mono (sk_alloc (w.heap.size + 1) w2 (.cells #[.int .i64 u.k, .int .i64 u.lo, .int .i64 u.hi, .slice a2 u.ns.length ac2, .slice b2 u.ps.length bc2, .slice c2 u.rs.length cc2] 26) _ _)); obtain ⟨v0, v1, v2, v3, v4, v5⟩ := J3.out.st.cells)
            | (refine step_gen 23 26 (.agg #[.int .i64 0, .int .i64 0, .int .i64 0, .slice none 0 0, .slice none 0 0, .slice none 0 0]) 96 6 latL6.und latL6.info latL6.cells (by decide) (by kernel_rfl) (.tmp 93) (.tmp 98) (by kernel_rfl) (v := .slice po j pc) (by kernel_rfl) J3.out.par (by have := J3.out.st.hp; omega) (vx := .slice (some ⟨w2.heap.size, 0, none⟩) 1 1) (by kernel_rfl) (src_lat w2 ⟨u.k, u.lo, u.hi, .slice a2 u.ns.length ac2, .slice b2 u.ps.length bc2, .slice c2 u.rs.length cc2⟩ ⟨rfl, rfl, rfl⟩) (by omega) (by omega) ?_; intro ao cap w4 ga; have J5 := hid_of (J3.out.part HU.out X3.out ga); have B4 := hid_of (J3.out.st.bel (ga_bel ga J3.out.par (by have := J3.out.st.hp; omega)) (by omega)); obtain ⟨u0, u1, u2, u3, u4, u5⟩ := B4.out.cells; have f3 := B4.out.free 4; clear ga))
        all_goals go_wp2
        all_goals go_roundw
        all_goals first
          | (exact ⟨j + 1, _, _, _, by omega, by go_num, HL2, hid_of (by rw [← HNX.out]; exact J5.out)⟩)
          | (simp [intOf]; omega)
    · have hdd2 : decide ((j : Int) < 1) = false := by simp; omega
      have HDE := hid_of (HD.out j hj hL.out (fun h => absurd h hlt))
      have HF : Hid (LO b g d w (w.heap.size + 1) 5 ns (.slice xo ns.length xc) ps ps.length po pc qs s3 wr) := hid_of (by
        have h1 := hk.out
        obtain ⟨e1, e2⟩ := HDE.out
        rw [e1] at h1
        rw [← e2]
        exact h1)
      go_wp2_with (refine wpList_store_row rfl 26 (.tmp 4) (.tmp 130) rfl w.heap.size #[.int .i64 5, .int .i64 0, .int .i64 0, .slice xo ns.length xc, .slice po j pc, .slice none 0 0] rfl rfl 26 _ HF.out.st.res infoLat rfl (by simp [Value.oneCell']) ?_)
      refine bodyPost_ret (results_cell_row rfl _ _ w.heap.size 26 #[.int .i64 5, .int .i64 0, .int .i64 0, .slice xo ns.length xc, .slice po j pc, .slice none 0 0] (0, 0) _ rfl (setRow_heap _ _ _ _ _ _ HF.out.st.res) Try.underlying26 rfl infoLat) rfl ?_
      exact RS.fin (t := ⟨5, 0, 0, ns, ps, []⟩) HF.out.st ⟨⟨by simp only [Lat.k]; omega, by simp only [Lat.k]; omega⟩, ⟨by simp only [Lat.lo]; omega, by simp only [Lat.lo]; omega⟩, ⟨by simp only [Lat.hi]; omega, by simp only [Lat.hi]; omega⟩⟩ HON.out (fun y hy => by simp [Lat.rs] at hy) (HF.out.fin.1) (HF.out.fin.2) (rus_nil _ _) _ (by show _ = Ending.returned (.agg #[.int .i64 5, .int .i64 0, .int .i64 0, .slice xo ns.length xc, .slice po ps.length pc, .slice none 0 0]); rw [← HDE.out.2])
theorem rz_7 (hdep : dep = (n : Int) + 1 ∧ n ≤ 5) (h6 : d.length ≤ 1000000) (h : IS w b g.ao g.n g.cap d s) (hk : (Wr.uR d s).1 = 7) (o1 : Nat) (hs1 : (Wr.uR d s).2 = some o1) (IH : RQ b g d n) :
    Calls Try.prog 31 #[.pointer (some ⟨b, 0, none⟩), .int .i64 dep] w (RdP b g d (rrF d (n + 1) s).1 (rrF d (n + 1) s).2 w) := by
  have HBG : Hid (b < w.heap.size) := hid_of h.bad.2.1
  have hgn : g.n = d.length := h.bad.2.2.2.symm
  have hsm : d.length ≤ 1000000 := h6
  have hdd : decide (dep < 1) = false := by simp; omega
  have hdw : IntKind.i64.wrap (dep - 1) = (n : Int) := by rw [IntWalk.i64_in _ (by omega)]; omega
  obtain ⟨f, hf⟩ : ∃ f, f = rrF d n := ⟨_, rfl⟩
  obtain ⟨m, hm⟩ : ∃ m : Nat, m = 2 := ⟨_, rfl⟩
  obtain ⟨ps, hps⟩ : ∃ ps, ps = (oN f (some o1) m).1 := ⟨_, rfl⟩
  obtain ⟨s3, hs3⟩ : ∃ s3, s3 = (oN f (some o1) m).2 := ⟨_, rfl⟩
  have HPS := hid_of hps
  have HS3 := hid_of hs3
  have HG : Hid (∀ j, j < m → (∀ i, i ≤ j → (oN f (some o1) i).2 ≠ none) → ps[j]? = some (f (oN f (some o1) j).2).1) := hid_of (fun j hj hL => by rw [hps]; exact oN_get f (some o1) j m hj hL)
  have HD : Hid (∀ j, j ≤ m → (∀ i, i < j → (oN f (some o1) i).2 ≠ none) → (j < m → (oN f (some o1) j).2 = none) → (oN f (some o1) j).2 = s3 ∧ j = ps.length) := hid_of (fun j hj hL hE => by
    have e : oN f (some o1) m = oN f (some o1) j := by
      rcases Nat.lt_or_ge j m with h1 | h1
      · have := oN_dead f (some o1) j (hE h1) (m - j)
        rwa [show j + (m - j) = m by omega] at this
      · rw [show m = j by omega]
    rw [hps, hs3, e, oN_len f (some o1) j hL]
    exact ⟨rfl, rfl⟩)
  have EE : Hid (rrF d (n + 1) s = (⟨7, 0, 0, [], ps, []⟩, s3)) := hid_of (by
    rw [rrF, hk, if_neg (by rw [hs1]; simp), if_neg (by decide : ¬(7 = 2 ∨ 7 = 3)), if_neg (by decide : ¬(7 = 4 ∨ 7 = 8)), if_neg (by decide : ¬(7 = 5)), if_neg (by decide : ¬(7 = 6)), if_pos (by decide : 7 = 7), hs1, ← hf, ← hm, ← hps, ← hs3]
    try rfl)
  rw [EE.out]
  show Calls Try.prog 31 #[.pointer (some ⟨b, 0, none⟩), .int .i64 dep] w (RdP b g d ⟨7, 0, 0, [], ps, []⟩ (s3) w)
  have S0 : Hid (RS b g d w (w.heap.size + 1) (.int .i64 0) (.int .i64 0) (.int .i64 0) (.slice none 0 0) (.slice none 0 0) (.slice none 0 0) s ((w.alloc (.cells [.int .i64 0, .int .i64 0, .int .i64 0, .slice none 0 0, .slice none 0 0, .slice none 0 0].toArray 26 (0, 0))).alloc (.cells [.int .i64 0, .int .i64 0, .int .i64 0, .slice none 0 0, .slice none 0 0, .slice none 0 0].toArray 26 (0, 0)))) := hid_of (RS.start h rfl)
  have C0 : Hid (Calls Try.prog 57 #[.pointer (some ⟨b, 0, none⟩)] ((w.alloc (.cells [.int .i64 0, .int .i64 0, .int .i64 0, .slice none 0 0, .slice none 0 0, .slice none 0 0].toArray 26 (0, 0))).alloc (.cells [.int .i64 0, .int .i64 0, .int .i64 0, .slice none 0 0, .slice none 0 0, .slice none 0 0].toArray 26 (0, 0))) (fun e w' => e = .returned (.int .u64 7) ∧ RG b g d ((w.alloc (.cells [.int .i64 0, .int .i64 0, .int .i64 0, .slice none 0 0, .slice none 0 0, .slice none 0 0].toArray 26 (0, 0))).alloc (.cells [.int .i64 0, .int .i64 0, .int .i64 0, .slice none 0 0, .slice none 0 0, .slice none 0 0].toArray 26 (0, 0))) w' (some o1))) := hid_of (by
    have h1 := uint_rg (RG.start S0.out.rg.st)
    rw [hk, hs1] at h1
    exact h1)
  have CRF : Hid (∀ st wa w2, RG b g d wa w2 st → Calls Try.prog 31 #[.pointer (some ⟨b, 0, none⟩), .int .i64 (n : Int)] w2 (RdP b g d (f st).1 (f st).2 w2)) := hid_of (fun st wa w2 k => by rw [hf]; exact IH st w2 k.st)
  have hmi : (m : Int) = 2 := by omega
  clear hdep h hk hs1 hf hps hs3 IH hsm h6 hgn
  go_enter Try.func31, Try.ntmps31
  go_wp2_with (go_at_call 57; ((with_reducible refine (C0.out).mono ?_); (rintro e w1 ⟨rfl, q1⟩)); have R0 := hid_of (S0.out.call q1); clear q1; have b3 : w1.cell? ⟨b, 3, none⟩ = some (.bool false) := R0.out.rg.st.bad.1; obtain ⟨p0, p1, p2, p3, p4, p5⟩ := R0.out.cells; have f0 := R0.out.free 0; have R1 := hid_of (R0.out.set 0 (.int .i64 7) rfl); obtain ⟨r0, r1, r2, r3, r4, r5⟩ := R1.out.cells)
  have N1 : Hid (NS (Bh (w.heap.size + 1) (w1.setCell ⟨w.heap.size + 1, 0, none⟩ (.int .i64 7))) (w1.setCell ⟨w.heap.size + 1, 0, none⟩ (.int .i64 7)) (.slice none 0 0) []) := hid_of (ns_nil _ _)
  have L0 := hid_of (lo_start (ps := ps) R1.out N1.out)
  go_loopw [8] (fun iv wr => ∃ (j : Nat) (po : Option Addr) (pc : Nat) (qs : List LX), j ≤ m ∧ iv = .int .i64 j ∧ Hid (∀ i, i < j → (oN f (some o1) i).2 ≠ none) ∧ Hid (LO b g d w (w.heap.size + 1) 7 [] (.slice none 0 0) ps j po pc qs (oN f (some o1) j).2 wr)) (fun iv _ => m - (intOf iv).toNat)
  case atStart => exact ⟨0, none, 0, [], Nat.zero_le _, rfl, hid_of (fun i hi => absurd hi (Nat.not_lt_zero i)), L0⟩
  case round =>
    obtain ⟨j, po, pc, qs, hj, rfl, hL, hk⟩ := hrel
    have c3 := hk.out.st.rg.st.bad.1
    obtain ⟨y0, y1, y2, y3, y4, y5⟩ := hk.out.st.cells
    by_cases hlt : j < m
    · have hdd2 : decide ((j : Int) < 2) = true := by simp; omega
      by_cases hal : (oN f (some o1) j).2 = none
      · have HDE := hid_of (HD.out j hj hL.out (fun _ => hal))
        rw [hal] at c3
        have c3 : wr.cell? ⟨b, 3, none⟩ = some (.bool true) := c3
        have HF : Hid (LO b g d w (w.heap.size + 1) 7 [] (.slice none 0 0) ps ps.length po pc qs s3 wr) := hid_of (by
          have h1 := hk.out
          obtain ⟨e1, e2⟩ := HDE.out
          rw [e1] at h1
          rw [← e2]
          exact h1)
        go_wp2_with (refine wpList_store_row rfl 26 (.tmp 4) (.tmp 130) rfl w.heap.size #[.int .i64 7, .int .i64 0, .int .i64 0, .slice none 0 0, .slice po j pc, .slice none 0 0] rfl rfl 26 _ HF.out.st.res infoLat rfl (by simp [Value.oneCell']) ?_)
        refine bodyPost_ret (results_cell_row rfl _ _ w.heap.size 26 #[.int .i64 7, .int .i64 0, .int .i64 0, .slice none 0 0, .slice po j pc, .slice none 0 0] (0, 0) _ rfl (setRow_heap _ _ _ _ _ _ HF.out.st.res) Try.underlying26 rfl infoLat) rfl ?_
        exact RS.fin (t := ⟨7, 0, 0, [], ps, []⟩) HF.out.st ⟨⟨by simp only [Lat.k]; omega, by simp only [Lat.k]; omega⟩, ⟨by simp only [Lat.lo]; omega, by simp only [Lat.lo]; omega⟩, ⟨by simp only [Lat.hi]; omega, by simp only [Lat.hi]; omega⟩⟩ (fun y hy => by simp [Lat.ns] at hy) (fun y hy => by simp [Lat.rs] at hy) (HF.out.fin.1) (HF.out.fin.2) (rus_nil _ _) _ (by show _ = Ending.returned (.agg #[.int .i64 7, .int .i64 0, .int .i64 0, .slice none 0 0, .slice po ps.length pc, .slice none 0 0]); rw [← HDE.out.2])
      · obtain ⟨oj, hoj⟩ : ∃ oj, (oN f (some o1) j).2 = some oj := Option.ne_none_iff_exists'.1 hal
        rw [hoj] at c3
        have c3 : wr.cell? ⟨b, 3, none⟩ = some (.bool false) := c3
        have HL2 : Hid (∀ i, i < j + 1 → (oN f (some o1) i).2 ≠ none) := hid_of (fun i hi => by rcases Nat.lt_or_ge i j with h1 | h1; exact hL.out i h1; rw [show i = j by omega]; exact hal)
        obtain ⟨u, hu⟩ : ∃ u, u = (f (oN f (some o1) j).2).1 := ⟨_, rfl⟩
        obtain ⟨t2, ht2⟩ : ∃ t2, t2 = (f (oN f (some o1) j).2).2 := ⟨_, rfl⟩
        have HU : Hid (ps[j]? = some u) := hid_of (by rw [hu]; exact HG.out j hlt (fun i hi => HL2.out i (by omega)))
        have HNX : Hid (t2 = (oN f (some o1) (j + 1)).2) := hid_of (by rw [ht2, oN, if_neg hal])
        have J1 := hid_of hk.out.drew
        have CR : Hid (∀ wa w2, RG b g d wa w2 (oN f (some o1) j).2 → Calls Try.prog 31 #[.pointer (some ⟨b, 0, none⟩), .int .i64 (n : Int)] w2 (RdP b g d u t2 w2)) := hid_of (fun wa w2 k => by rw [hu, ht2]; exact CRF.out _ wa w2 k)
        clear hu ht2 hoj hal
        go_wp2
        go_region_law (first
            | (go_simp; go_at_call 31; ((with_reducible refine (CR.out _ _ J1.out.st.rg).mono ?_); (rintro e w2 ⟨a2, ac2, b2, bc2, c2, cc2, rfl, q1, q2⟩)); have J2 := hid_of (J1.out.call q2); have X2 := hid_of (lo_kid J1.out q2 q1); clear q1 q2; obtain ⟨z0, z1, z2, z3, z4, z5⟩ := J2.out.st.cells; have J3 := hid_of (J2.out.alloc (.cells #[.int .i64 u.k, .int .i64 u.lo, .int .i64 u.hi, .slice a2 u.ns.length ac2, .slice b2 u.ps.length bc2, .slice c2 u.rs.length cc2] 26)); have X3 := hid_of ((X2.out.keep (keeps_alloc _ w2 (.cells #[.int .i64 u.k, .int .i64 u.lo, .int .i64 u.hi, .slice a2 u.ns.length ac2, .slice b2 u.ps.length bc2, .slice c2 u.rs.length cc2] 26))).mono (sk_alloc (w.heap.size + 1) w2 (.cells #[.int .i64 u.k, .int .i64 u.lo, .int .i64 u.hi, .slice a2 u.ns.length ac2, .slice b2 u.ps.length bc2, .slice c2 u.rs.length cc2] 26) _ _)); obtain ⟨v0, v1, v2, v3, v4, v5⟩ := J3.out.st.cells)
            | (refine step_gen 23 26 (.agg #[.int .i64 0, .int .i64 0, .int .i64 0, .slice none 0 0, .slice none 0 0, .slice none 0 0]) 96 6 latL6.und latL6.info latL6.cells (by decide) (by kernel_rfl) (.tmp 93) (.tmp 98) (by kernel_rfl) (v := .slice po j pc) (by kernel_rfl) J3.out.par (by have := J3.out.st.hp; omega) (vx := .slice (some ⟨w2.heap.size, 0, none⟩) 1 1) (by kernel_rfl) (src_lat w2 ⟨u.k, u.lo, u.hi, .slice a2 u.ns.length ac2, .slice b2 u.ps.length bc2, .slice c2 u.rs.length cc2⟩ ⟨rfl, rfl, rfl⟩) (by omega) (by omega) ?_; intro ao cap w4 ga; have J5 := hid_of (J3.out.part HU.out X3.out ga); have B4 := hid_of (J3.out.st.bel (ga_bel ga J3.out.par (by have := J3.out.st.hp; omega)) (by omega)); obtain ⟨u0, u1, u2, u3, u4, u5⟩ := B4.out.cells; have f3 := B4.out.free 4; clear ga))
        all_goals go_wp2
        all_goals go_roundw
        all_goals first
          | (exact ⟨j + 1, _, _, _, by omega, by go_num, HL2, hid_of (by rw [← HNX.out]; exact J5.out)⟩)
          | (simp [intOf]; omega)
    · have hdd2 : decide ((j : Int) < 2) = false := by simp; omega
      have HDE := hid_of (HD.out j hj hL.out (fun h => absurd h hlt))
      have HF : Hid (LO b g d w (w.heap.size + 1) 7 [] (.slice none 0 0) ps ps.length po pc qs s3 wr) := hid_of (by
        have h1 := hk.out
        obtain ⟨e1, e2⟩ := HDE.out
        rw [e1] at h1
        rw [← e2]
        exact h1)
      go_wp2_with (refine wpList_store_row rfl 26 (.tmp 4) (.tmp 130) rfl w.heap.size #[.int .i64 7, .int .i64 0, .int .i64 0, .slice none 0 0, .slice po j pc, .slice none 0 0] rfl rfl 26 _ HF.out.st.res infoLat rfl (by simp [Value.oneCell']) ?_)
      refine bodyPost_ret (results_cell_row rfl _ _ w.heap.size 26 #[.int .i64 7, .int .i64 0, .int .i64 0, .slice none 0 0, .slice po j pc, .slice none 0 0] (0, 0) _ rfl (setRow_heap _ _ _ _ _ _ HF.out.st.res) Try.underlying26 rfl infoLat) rfl ?_
      exact RS.fin (t := ⟨7, 0, 0, [], ps, []⟩) HF.out.st ⟨⟨by simp only [Lat.k]; omega, by simp only [Lat.k]; omega⟩, ⟨by simp only [Lat.lo]; omega, by simp only [Lat.lo]; omega⟩, ⟨by simp only [Lat.hi]; omega, by simp only [Lat.hi]; omega⟩⟩ (fun y hy => by simp [Lat.ns] at hy) (fun y hy => by simp [Lat.rs] at hy) (HF.out.fin.1) (HF.out.fin.2) (rus_nil _ _) _ (by show _ = Ending.returned (.agg #[.int .i64 7, .int .i64 0, .int .i64 0, .slice none 0 0, .slice po ps.length pc, .slice none 0 0]); rw [← HDE.out.2])
theorem rz_dead (hb : (Wr.uR d s).2 = none) (h : IS w b g.ao g.n g.cap d s) :
    Calls Try.prog 31 #[.pointer (some ⟨b, 0, none⟩), .int .i64 dep] w (RdP b g d ⟨0, 0, 0, [], [], []⟩ none w) := by
  have HBG : Hid (b < w.heap.size) := hid_of h.bad.2.1
  have HU := hid_of (uR_lt d h)
  obtain ⟨kk, hkk⟩ : ∃ kk, kk = (Wr.uR d s).1 := ⟨_, rfl⟩
  obtain ⟨s1, hs1⟩ : ∃ s1, s1 = (Wr.uR d s).2 := ⟨_, rfl⟩
  have S0 : Hid (RS b g d w (w.heap.size + 1) (.int .i64 0) (.int .i64 0) (.int .i64 0) (.slice none 0 0) (.slice none 0 0) (.slice none 0 0) s ((w.alloc (.cells [.int .i64 0, .int .i64 0, .int .i64 0, .slice none 0 0, .slice none 0 0, .slice none 0 0].toArray 26 (0, 0))).alloc (.cells [.int .i64 0, .int .i64 0, .int .i64 0, .slice none 0 0, .slice none 0 0, .slice none 0 0].toArray 26 (0, 0)))) := hid_of (RS.start h rfl)
  have C0 : Hid (Calls Try.prog 57 #[.pointer (some ⟨b, 0, none⟩)] ((w.alloc (.cells [.int .i64 0, .int .i64 0, .int .i64 0, .slice none 0 0, .slice none 0 0, .slice none 0 0].toArray 26 (0, 0))).alloc (.cells [.int .i64 0, .int .i64 0, .int .i64 0, .slice none 0 0, .slice none 0 0, .slice none 0 0].toArray 26 (0, 0))) (fun e w' => e = .returned (.int .u64 kk) ∧ RG b g d ((w.alloc (.cells [.int .i64 0, .int .i64 0, .int .i64 0, .slice none 0 0, .slice none 0 0, .slice none 0 0].toArray 26 (0, 0))).alloc (.cells [.int .i64 0, .int .i64 0, .int .i64 0, .slice none 0 0, .slice none 0 0, .slice none 0 0].toArray 26 (0, 0))) w' s1)) := hid_of (by
    have h1 := uint_rg (RG.start S0.out.rg.st)
    rw [← hkk, ← hs1] at h1
    exact h1)
  have CF : Hid (∀ wa w2, RG b g d wa w2 s1 → Calls Try.prog 58 #[.pointer (some ⟨b, 0, none⟩)] w2 fun e w' => e = .returned (.tuple #[]) ∧ RG b g d w2 w' none) := hid_of (fun wa w2 k => fail_rg k)
  have B3 : Hid (∀ W, IS W b g.ao g.n g.cap d s1 → W.cell? ⟨b, 3, none⟩ = some (.bool true)) := hid_of (fun W k => by have := k.bad.1; rw [hs1, hb] at this; exact this)
  clear h hkk hs1
  go_enter Try.func31, Try.ntmps31
  go_wp2_with (first
    | (go_at_call 57; ((with_reducible refine (C0.out).mono ?_); (rintro e w1 ⟨rfl, q1⟩)); have R1 := hid_of (S0.out.call q1); clear q1; have b3 := B3.out w1 R1.out.rg.st)
    | (go_at_call 58; ((with_reducible refine (CF.out _ _ R1.out.rg).mono ?_); (rintro e w2 ⟨rfl, q1⟩)); have R2 := hid_of (R1.out.call q1); clear q1; obtain ⟨y0, y1, y2, y3, y4, y5⟩ := R2.out.cells)
    | (refine wpList_store_row rfl 26 (.tmp 4) (.tmp 33) rfl w.heap.size #[.int .i64 0, .int .i64 0, .int .i64 0, .slice none 0 0, .slice none 0 0, .slice none 0 0] rfl rfl 26 _ R2.out.res infoLat rfl (by simp [Value.oneCell']) ?_))
  refine bodyPost_ret (results_cell_row rfl _ _ w.heap.size 26 #[.int .i64 0, .int .i64 0, .int .i64 0, .slice none 0 0, .slice none 0 0, .slice none 0 0] (0, 0) _ rfl (setRow_heap _ _ _ _ _ _ R2.out.res) Try.underlying26 rfl infoLat) rfl ?_
  exact RS.fin (t := ⟨0, 0, 0, [], [], []⟩) R2.out ⟨⟨by simp only [Lat.k]; omega, by simp only [Lat.k]; omega⟩, ⟨by simp only [Lat.lo]; omega, by simp only [Lat.lo]; omega⟩, ⟨by simp only [Lat.hi]; omega, by simp only [Lat.hi]; omega⟩⟩ (fun y hy => by simp [Lat.ns] at hy) (fun y hy => by simp [Lat.rs] at hy) (ns_nil _ _) (ps_nil _ _) (rus_nil _ _) _ rfl
theorem rz_deep (o1 : Nat) (hb : (Wr.uR d s).2 = some o1) (hdep : dep < 1) (h : IS w b g.ao g.n g.cap d s) :
    Calls Try.prog 31 #[.pointer (some ⟨b, 0, none⟩), .int .i64 dep] w (RdP b g d ⟨0, 0, 0, [], [], []⟩ none w) := by
  have HBG : Hid (b < w.heap.size) := hid_of h.bad.2.1
  have HU := hid_of (uR_lt d h)
  obtain ⟨kk, hkk⟩ : ∃ kk, kk = (Wr.uR d s).1 := ⟨_, rfl⟩
  obtain ⟨s1, hs1⟩ : ∃ s1, s1 = (Wr.uR d s).2 := ⟨_, rfl⟩
  have S0 : Hid (RS b g d w (w.heap.size + 1) (.int .i64 0) (.int .i64 0) (.int .i64 0) (.slice none 0 0) (.slice none 0 0) (.slice none 0 0) s ((w.alloc (.cells [.int .i64 0, .int .i64 0, .int .i64 0, .slice none 0 0, .slice none 0 0, .slice none 0 0].toArray 26 (0, 0))).alloc (.cells [.int .i64 0, .int .i64 0, .int .i64 0, .slice none 0 0, .slice none 0 0, .slice none 0 0].toArray 26 (0, 0)))) := hid_of (RS.start h rfl)
  have C0 : Hid (Calls Try.prog 57 #[.pointer (some ⟨b, 0, none⟩)] ((w.alloc (.cells [.int .i64 0, .int .i64 0, .int .i64 0, .slice none 0 0, .slice none 0 0, .slice none 0 0].toArray 26 (0, 0))).alloc (.cells [.int .i64 0, .int .i64 0, .int .i64 0, .slice none 0 0, .slice none 0 0, .slice none 0 0].toArray 26 (0, 0))) (fun e w' => e = .returned (.int .u64 kk) ∧ RG b g d ((w.alloc (.cells [.int .i64 0, .int .i64 0, .int .i64 0, .slice none 0 0, .slice none 0 0, .slice none 0 0].toArray 26 (0, 0))).alloc (.cells [.int .i64 0, .int .i64 0, .int .i64 0, .slice none 0 0, .slice none 0 0, .slice none 0 0].toArray 26 (0, 0))) w' s1)) := hid_of (by
    have h1 := uint_rg (RG.start S0.out.rg.st)
    rw [← hkk, ← hs1] at h1
    exact h1)
  have CF : Hid (∀ wa w2, RG b g d wa w2 s1 → Calls Try.prog 58 #[.pointer (some ⟨b, 0, none⟩)] w2 fun e w' => e = .returned (.tuple #[]) ∧ RG b g d w2 w' none) := hid_of (fun wa w2 k => fail_rg k)
  have B3 : Hid (∀ W, IS W b g.ao g.n g.cap d s1 → W.cell? ⟨b, 3, none⟩ = some (.bool false)) := hid_of (fun W k => by have := k.bad.1; rw [hs1, hb] at this; exact this)
  have d1 : decide (dep < 1) = true := by simp; omega
  clear h hkk hs1
  go_enter Try.func31, Try.ntmps31
  go_wp2_with (first
    | (go_at_call 57; ((with_reducible refine (C0.out).mono ?_); (rintro e w1 ⟨rfl, q1⟩)); have R1 := hid_of (S0.out.call q1); clear q1; have b3 := B3.out w1 R1.out.rg.st)
    | (go_at_call 58; ((with_reducible refine (CF.out _ _ R1.out.rg).mono ?_); (rintro e w2 ⟨rfl, q1⟩)); have R2 := hid_of (R1.out.call q1); clear q1; obtain ⟨y0, y1, y2, y3, y4, y5⟩ := R2.out.cells)
    | (refine wpList_store_row rfl 26 (.tmp 4) (.tmp 33) rfl w.heap.size #[.int .i64 0, .int .i64 0, .int .i64 0, .slice none 0 0, .slice none 0 0, .slice none 0 0] rfl rfl 26 _ R2.out.res infoLat rfl (by simp [Value.oneCell']) ?_))
  refine bodyPost_ret (results_cell_row rfl _ _ w.heap.size 26 #[.int .i64 0, .int .i64 0, .int .i64 0, .slice none 0 0, .slice none 0 0, .slice none 0 0] (0, 0) _ rfl (setRow_heap _ _ _ _ _ _ R2.out.res) Try.underlying26 rfl infoLat) rfl ?_
  exact RS.fin (t := ⟨0, 0, 0, [], [], []⟩) R2.out ⟨⟨by simp only [Lat.k]; omega, by simp only [Lat.k]; omega⟩, ⟨by simp only [Lat.lo]; omega, by simp only [Lat.lo]; omega⟩, ⟨by simp only [Lat.hi]; omega, by simp only [Lat.hi]; omega⟩⟩ (fun y hy => by simp [Lat.ns] at hy) (fun y hy => by simp [Lat.rs] at hy) (ns_nil _ _) (ps_nil _ _) (rus_nil _ _) _ rfl
theorem rz_small (o1 : Nat) (hb : (Wr.uR d s).2 = some o1) (hdep : 1 ≤ dep) (hk0 : (Wr.uR d s).1 = 0) (h : IS w b g.ao g.n g.cap d s) :
    Calls Try.prog 31 #[.pointer (some ⟨b, 0, none⟩), .int .i64 dep] w (RdP b g d ⟨0, 0, 0, [], [], []⟩ none w) := by
  have HBG : Hid (b < w.heap.size) := hid_of h.bad.2.1
  have HU := hid_of (uR_lt d h)
  obtain ⟨kk, hkk⟩ : ∃ kk, kk = (Wr.uR d s).1 := ⟨_, rfl⟩
  obtain ⟨s1, hs1⟩ : ∃ s1, s1 = (Wr.uR d s).2 := ⟨_, rfl⟩
  have S0 : Hid (RS b g d w (w.heap.size + 1) (.int .i64 0) (.int .i64 0) (.int .i64 0) (.slice none 0 0) (.slice none 0 0) (.slice none 0 0) s ((w.alloc (.cells [.int .i64 0, .int .i64 0, .int .i64 0, .slice none 0 0, .slice none 0 0, .slice none 0 0].toArray 26 (0, 0))).alloc (.cells [.int .i64 0, .int .i64 0, .int .i64 0, .slice none 0 0, .slice none 0 0, .slice none 0 0].toArray 26 (0, 0)))) := hid_of (RS.start h rfl)
  have C0 : Hid (Calls Try.prog 57 #[.pointer (some ⟨b, 0, none⟩)] ((w.alloc (.cells [.int .i64 0, .int .i64 0, .int .i64 0, .slice none 0 0, .slice none 0 0, .slice none 0 0].toArray 26 (0, 0))).alloc (.cells [.int .i64 0, .int .i64 0, .int .i64 0, .slice none 0 0, .slice none 0 0, .slice none 0 0].toArray 26 (0, 0))) (fun e w' => e = .returned (.int .u64 kk) ∧ RG b g d ((w.alloc (.cells [.int .i64 0, .int .i64 0, .int .i64 0, .slice none 0 0, .slice none 0 0, .slice none 0 0].toArray 26 (0, 0))).alloc (.cells [.int .i64 0, .int .i64 0, .int .i64 0, .slice none 0 0, .slice none 0 0, .slice none 0 0].toArray 26 (0, 0))) w' s1)) := hid_of (by
    have h1 := uint_rg (RG.start S0.out.rg.st)
    rw [← hkk, ← hs1] at h1
    exact h1)
  have CF : Hid (∀ wa w2, RG b g d wa w2 s1 → Calls Try.prog 58 #[.pointer (some ⟨b, 0, none⟩)] w2 fun e w' => e = .returned (.tuple #[]) ∧ RG b g d w2 w' none) := hid_of (fun wa w2 k => fail_rg k)
  have B3 : Hid (∀ W, IS W b g.ao g.n g.cap d s1 → W.cell? ⟨b, 3, none⟩ = some (.bool false)) := hid_of (fun W k => by have := k.bad.1; rw [hs1, hb] at this; exact this)
  have d1 : decide (dep < 1) = false := by simp; omega
  obtain rfl : kk = 0 := by omega
  clear h hkk hs1
  go_enter Try.func31, Try.ntmps31
  go_wp2_with (first
    | (go_at_call 57; ((with_reducible refine (C0.out).mono ?_); (rintro e w1 ⟨rfl, q1⟩)); have R1 := hid_of (S0.out.call q1); clear q1; have b3 := B3.out w1 R1.out.rg.st)
    | (go_at_call 58; ((with_reducible refine (CF.out _ _ R1.out.rg).mono ?_); (rintro e w2 ⟨rfl, q1⟩)); have R2 := hid_of (R1.out.call q1); clear q1; obtain ⟨y0, y1, y2, y3, y4, y5⟩ := R2.out.cells)
    | (refine wpList_store_row rfl 26 (.tmp 4) (.tmp 33) rfl w.heap.size #[.int .i64 0, .int .i64 0, .int .i64 0, .slice none 0 0, .slice none 0 0, .slice none 0 0] rfl rfl 26 _ R2.out.res infoLat rfl (by simp [Value.oneCell']) ?_))
  refine bodyPost_ret (results_cell_row rfl _ _ w.heap.size 26 #[.int .i64 0, .int .i64 0, .int .i64 0, .slice none 0 0, .slice none 0 0, .slice none 0 0] (0, 0) _ rfl (setRow_heap _ _ _ _ _ _ R2.out.res) Try.underlying26 rfl infoLat) rfl ?_
  exact RS.fin (t := ⟨0, 0, 0, [], [], []⟩) R2.out ⟨⟨by simp only [Lat.k]; omega, by simp only [Lat.k]; omega⟩, ⟨by simp only [Lat.lo]; omega, by simp only [Lat.lo]; omega⟩, ⟨by simp only [Lat.hi]; omega, by simp only [Lat.hi]; omega⟩⟩ (fun y hy => by simp [Lat.ns] at hy) (fun y hy => by simp [Lat.rs] at hy) (ns_nil _ _) (ps_nil _ _) (rus_nil _ _) _ rfl
theorem rz_kind (o1 : Nat) (hb : (Wr.uR d s).2 = some o1) (hdep : 1 ≤ dep) (hk0 : 10 < (Wr.uR d s).1) (h : IS w b g.ao g.n g.cap d s) :
    Calls Try.prog 31 #[.pointer (some ⟨b, 0, none⟩), .int .i64 dep] w (RdP b g d ⟨0, 0, 0, [], [], []⟩ none w) := by
  have HBG : Hid (b < w.heap.size) := hid_of h.bad.2.1
  have HU := hid_of (uR_lt d h)
  obtain ⟨kk, hkk⟩ : ∃ kk, kk = (Wr.uR d s).1 := ⟨_, rfl⟩
  obtain ⟨s1, hs1⟩ : ∃ s1, s1 = (Wr.uR d s).2 := ⟨_, rfl⟩
  have S0 : Hid (RS b g d w (w.heap.size + 1) (.int .i64 0) (.int .i64 0) (.int .i64 0) (.slice none 0 0) (.slice none 0 0) (.slice none 0 0) s ((w.alloc (.cells [.int .i64 0, .int .i64 0, .int .i64 0, .slice none 0 0, .slice none 0 0, .slice none 0 0].toArray 26 (0, 0))).alloc (.cells [.int .i64 0, .int .i64 0, .int .i64 0, .slice none 0 0, .slice none 0 0, .slice none 0 0].toArray 26 (0, 0)))) := hid_of (RS.start h rfl)
  have C0 : Hid (Calls Try.prog 57 #[.pointer (some ⟨b, 0, none⟩)] ((w.alloc (.cells [.int .i64 0, .int .i64 0, .int .i64 0, .slice none 0 0, .slice none 0 0, .slice none 0 0].toArray 26 (0, 0))).alloc (.cells [.int .i64 0, .int .i64 0, .int .i64 0, .slice none 0 0, .slice none 0 0, .slice none 0 0].toArray 26 (0, 0))) (fun e w' => e = .returned (.int .u64 kk) ∧ RG b g d ((w.alloc (.cells [.int .i64 0, .int .i64 0, .int .i64 0, .slice none 0 0, .slice none 0 0, .slice none 0 0].toArray 26 (0, 0))).alloc (.cells [.int .i64 0, .int .i64 0, .int .i64 0, .slice none 0 0, .slice none 0 0, .slice none 0 0].toArray 26 (0, 0))) w' s1)) := hid_of (by
    have h1 := uint_rg (RG.start S0.out.rg.st)
    rw [← hkk, ← hs1] at h1
    exact h1)
  have CF : Hid (∀ wa w2, RG b g d wa w2 s1 → Calls Try.prog 58 #[.pointer (some ⟨b, 0, none⟩)] w2 fun e w' => e = .returned (.tuple #[]) ∧ RG b g d w2 w' none) := hid_of (fun wa w2 k => fail_rg k)
  have B3 : Hid (∀ W, IS W b g.ao g.n g.cap d s1 → W.cell? ⟨b, 3, none⟩ = some (.bool false)) := hid_of (fun W k => by have := k.bad.1; rw [hs1, hb] at this; exact this)
  have d1 : decide (dep < 1) = false := by simp; omega
  have d2 : decide (kk < 1) = false := by simp; omega
  have d3 : decide (10 < kk) = true := by simp; omega
  have d4 : decide ((kk : Int) < 1) = false := by simp; omega
  have d5 : decide ((kk : Int) > 10) = true := by simp; omega
  have d6 : decide (kk = 0) = false := by simp; omega
  clear h hkk hs1
  go_enter Try.func31, Try.ntmps31
  go_wp2_with (first
    | (go_at_call 57; ((with_reducible refine (C0.out).mono ?_); (rintro e w1 ⟨rfl, q1⟩)); have R1 := hid_of (S0.out.call q1); clear q1; have b3 := B3.out w1 R1.out.rg.st)
    | (go_at_call 58; ((with_reducible refine (CF.out _ _ R1.out.rg).mono ?_); (rintro e w2 ⟨rfl, q1⟩)); have R2 := hid_of (R1.out.call q1); clear q1; obtain ⟨y0, y1, y2, y3, y4, y5⟩ := R2.out.cells)
    | (refine wpList_store_row rfl 26 (.tmp 4) (.tmp 33) rfl w.heap.size #[.int .i64 0, .int .i64 0, .int .i64 0, .slice none 0 0, .slice none 0 0, .slice none 0 0] rfl rfl 26 _ R2.out.res infoLat rfl (by simp [Value.oneCell']) ?_))
  refine bodyPost_ret (results_cell_row rfl _ _ w.heap.size 26 #[.int .i64 0, .int .i64 0, .int .i64 0, .slice none 0 0, .slice none 0 0, .slice none 0 0] (0, 0) _ rfl (setRow_heap _ _ _ _ _ _ R2.out.res) Try.underlying26 rfl infoLat) rfl ?_
  exact RS.fin (t := ⟨0, 0, 0, [], [], []⟩) R2.out ⟨⟨by simp only [Lat.k]; omega, by simp only [Lat.k]; omega⟩, ⟨by simp only [Lat.lo]; omega, by simp only [Lat.lo]; omega⟩, ⟨by simp only [Lat.hi]; omega, by simp only [Lat.hi]; omega⟩⟩ (fun y hy => by simp [Lat.ns] at hy) (fun y hy => by simp [Lat.rs] at hy) (ns_nil _ _) (ps_nil _ _) (rus_nil _ _) _ rfl
theorem rz_6 (hdep : dep = (n : Int) + 1 ∧ n ≤ 5) (h6 : d.length ≤ 1000000) (h : IS w b g.ao g.n g.cap d s) (hk : (Wr.uR d s).1 = 6) (o1 : Nat) (hs1 : (Wr.uR d s).2 = some o1) (hc8 : (Wr.cR d (some o1)).1 ≤ 8) (IH : RQ b g d n) :
    Calls Try.prog 31 #[.pointer (some ⟨b, 0, none⟩), .int .i64 dep] w (RdP b g d (rrF d (n + 1) s).1 (rrF d (n + 1) s).2 w) := by
  have HBG : Hid (b < w.heap.size) := hid_of h.bad.2.1
  have hgn : g.n = d.length := h.bad.2.2.2.symm
  have hsm : d.length ≤ 1000000 := h6
  have hdd : decide (dep < 1) = false := by simp; omega
  have hdw : IntKind.i64.wrap (dep - 1) = (n : Int) := by rw [IntWalk.i64_in _ (by omega)]; omega
  obtain ⟨cn, hcn⟩ : ∃ cn, cn = (Wr.cR d (some o1)).1 := ⟨_, rfl⟩
  obtain ⟨s2, hs2⟩ : ∃ s2, s2 = (Wr.cR d (some o1)).2 := ⟨_, rfl⟩
  have hpc : pcF d (some o1) = (cn, s2) := by rw [pcF, ← hcn, ← hs2, if_neg (by omega)]
  obtain ⟨f, hf⟩ : ∃ f, f = rrF d n := ⟨_, rfl⟩
  obtain ⟨ns, hns⟩ : ∃ ns, ns = (qN f d s2 cn).1.1 := ⟨_, rfl⟩
  obtain ⟨ps, hps⟩ : ∃ ps, ps = (qN f d s2 cn).1.2 := ⟨_, rfl⟩
  obtain ⟨s3, hs3⟩ : ∃ s3, s3 = (qN f d s2 cn).2 := ⟨_, rfl⟩
  have hn8 : cn ≤ 8 := by rw [hcn]; exact hc8
  have HON : Hid (Ok ns) := hid_of (fun y hy => by have := qN_small f d s2 cn y (by rw [← hns]; exact hy); omega)
  have HG : Hid (∀ j, j < cn → (∀ i, i ≤ j → (qN f d s2 i).2 ≠ none) → ns[j]? = some (strU (Wr.tR d (qN f d s2 j).2).1) ∧ ps[j]? = some (f (Wr.tR d (qN f d s2 j).2).2).1) := hid_of (fun j hj hL => by rw [hns, hps]; exact qN_get f d s2 j cn hj hL)
  have HD : Hid (∀ j, j ≤ cn → (∀ i, i < j → (qN f d s2 i).2 ≠ none) → (j < cn → (qN f d s2 j).2 = none) → (qN f d s2 j).2 = s3 ∧ j = ns.length ∧ ps.length = ns.length) := hid_of (fun j hj hL hE => by
    have e : qN f d s2 cn = qN f d s2 j := by
      rcases Nat.lt_or_ge j cn with h1 | h1
      · have := qN_dead f d s2 j (hE h1) (cn - j)
        rwa [show j + (cn - j) = cn by omega] at this
      · rw [show cn = j by omega]
    obtain ⟨l1, l2⟩ := qN_len f d s2 j hL
    rw [hns, hps, hs3, e, l1, l2]
    exact ⟨rfl, rfl, rfl⟩)
  have EE : Hid (rrF d (n + 1) s = (⟨6, 0, 0, ns, ps, []⟩, s3)) := hid_of (by
    rw [rrF, hk, if_neg (by rw [hs1]; simp), if_neg (by decide : ¬(6 = 2 ∨ 6 = 3)), if_neg (by decide : ¬(6 = 4 ∨ 6 = 8)), if_neg (by decide : ¬(6 = 5)), if_pos (by decide : 6 = 6), hs1, hpc, ← hf, ← hns, ← hps, ← hs3]
    try rfl)
  rw [EE.out]
  show Calls Try.prog 31 #[.pointer (some ⟨b, 0, none⟩), .int .i64 dep] w (RdP b g d ⟨6, 0, 0, ns, ps, []⟩ (s3) w)
  have S0 : Hid (RS b g d w (w.heap.size + 1) (.int .i64 0) (.int .i64 0) (.int .i64 0) (.slice none 0 0) (.slice none 0 0) (.slice none 0 0) s ((w.alloc (.cells [.int .i64 0, .int .i64 0, .int .i64 0, .slice none 0 0, .slice none 0 0, .slice none 0 0].toArray 26 (0, 0))).alloc (.cells [.int .i64 0, .int .i64 0, .int .i64 0, .slice none 0 0, .slice none 0 0, .slice none 0 0].toArray 26 (0, 0)))) := hid_of (RS.start h rfl)
  have C0 : Hid (Calls Try.prog 57 #[.pointer (some ⟨b, 0, none⟩)] ((w.alloc (.cells [.int .i64 0, .int .i64 0, .int .i64 0, .slice none 0 0, .slice none 0 0, .slice none 0 0].toArray 26 (0, 0))).alloc (.cells [.int .i64 0, .int .i64 0, .int .i64 0, .slice none 0 0, .slice none 0 0, .slice none 0 0].toArray 26 (0, 0))) (fun e w' => e = .returned (.int .u64 6) ∧ RG b g d ((w.alloc (.cells [.int .i64 0, .int .i64 0, .int .i64 0, .slice none 0 0, .slice none 0 0, .slice none 0 0].toArray 26 (0, 0))).alloc (.cells [.int .i64 0, .int .i64 0, .int .i64 0, .slice none 0 0, .slice none 0 0, .slice none 0 0].toArray 26 (0, 0))) w' (some o1))) := hid_of (by
    have h1 := uint_rg (RG.start S0.out.rg.st)
    rw [hk, hs1] at h1
    exact h1)
  have CC : Hid (∀ wa w2, RG b g d wa w2 (some o1) → Calls Try.prog 61 #[.pointer (some ⟨b, 0, none⟩)] w2 fun e w' => e = .returned (.int .i64 cn) ∧ RG b g d w2 w' s2) := hid_of (fun wa w2 k => by rw [hcn, hs2]; exact count_rg k)
  have CRF : Hid (∀ st wa w2, RG b g d wa w2 st → Calls Try.prog 31 #[.pointer (some ⟨b, 0, none⟩), .int .i64 (n : Int)] w2 (RdP b g d (f st).1 (f st).2 w2)) := hid_of (fun st wa w2 k => by rw [hf]; exact IH st w2 k.st)
  have hd8 : decide ((cn : Int) > 8) = false := by simp; omega
  have hd9 : decide (8 < cn) = false := by simp; omega
  clear hdep h hk hs1 hs2 hcn hpc hf hns hps hs3 IH hsm h6 hgn hc8
  go_enter Try.func31, Try.ntmps31
  go_wp2_with (first
    | (go_at_call 57; ((with_reducible refine (C0.out).mono ?_); (rintro e w1 ⟨rfl, q1⟩)); have R0 := hid_of (S0.out.call q1); clear q1; have b3 : w1.cell? ⟨b, 3, none⟩ = some (.bool false) := R0.out.rg.st.bad.1; obtain ⟨p0, p1, p2, p3, p4, p5⟩ := R0.out.cells; have f0 := R0.out.free 0; have R1 := hid_of (R0.out.set 0 (.int .i64 6) rfl); obtain ⟨r0, r1, r2, r3, r4, r5⟩ := R1.out.cells)
    | (go_at_call 61; ((with_reducible refine (CC.out _ _ R1.out.rg).mono ?_); (rintro e w2 ⟨rfl, q1⟩)); have L2 := hid_of (show LP b g d w (w.heap.size + 1) ns ps 0 0 none 0 none 0 [] s2 w2 from lp_start (R1.out.call q1)); clear q1))
  go_loopw [8] (fun iv wr => ∃ (j : Nat) (no : Option Addr) (nc : Nat) (po : Option Addr) (pc : Nat) (qs : List LX), j ≤ cn ∧ iv = .int .i64 j ∧ Hid (∀ i, i < j → (qN f d s2 i).2 ≠ none) ∧ Hid (LP b g d w (w.heap.size + 1) ns ps j j no nc po pc qs (qN f d s2 j).2 wr)) (fun iv _ => cn - (intOf iv).toNat)
  case atStart => exact ⟨0, none, 0, none, 0, [], Nat.zero_le _, rfl, hid_of (fun i hi => absurd hi (Nat.not_lt_zero i)), L2⟩
  case round =>
    obtain ⟨j, no, nc, po, pc, qs, hj, rfl, hL, hk⟩ := hrel
    have c3 := hk.out.st.rg.st.bad.1
    obtain ⟨y0, y1, y2, y3, y4, y5⟩ := hk.out.st.cells
    by_cases hlt : j < cn
    · have hdd2 : decide (j < cn) = true := by simp; omega
      by_cases hal : (qN f d s2 j).2 = none
      · have HDE := hid_of (HD.out j hj hL.out (fun _ => hal))
        rw [hal] at c3
        have c3 : wr.cell? ⟨b, 3, none⟩ = some (.bool true) := c3
        have HF : Hid (LP b g d w (w.heap.size + 1) ns ps ns.length ps.length no nc po pc qs s3 wr) := hid_of (by
          have h1 := hk.out
          obtain ⟨e1, e2, e3⟩ := HDE.out
          rw [e1] at h1
          rw [e3, ← e2]
          exact h1)
        have HNL : Hid (ns.length ≤ 1000) := hid_of (by have := HDE.out; omega)
        go_wp2_with (refine wpList_store_row rfl 26 (.tmp 4) (.tmp 130) rfl w.heap.size #[.int .i64 6, .int .i64 0, .int .i64 0, .slice no j nc, .slice po j pc, .slice none 0 0] rfl rfl 26 _ HF.out.st.res infoLat rfl (by simp [Value.oneCell']) ?_)
        refine bodyPost_ret (results_cell_row rfl _ _ w.heap.size 26 #[.int .i64 6, .int .i64 0, .int .i64 0, .slice no j nc, .slice po j pc, .slice none 0 0] (0, 0) _ rfl (setRow_heap _ _ _ _ _ _ HF.out.st.res) Try.underlying26 rfl infoLat) rfl ?_
        exact RS.fin (t := ⟨6, 0, 0, ns, ps, []⟩) HF.out.st ⟨⟨by simp only [Lat.k]; omega, by simp only [Lat.k]; omega⟩, ⟨by simp only [Lat.lo]; omega, by simp only [Lat.lo]; omega⟩, ⟨by simp only [Lat.hi]; omega, by simp only [Lat.hi]; omega⟩⟩ HON.out (fun y hy => by simp [Lat.rs] at hy) ((HF.out.fin HNL.out).1) ((HF.out.fin HNL.out).2) (rus_nil _ _) _ (by show _ = Ending.returned (.agg #[.int .i64 6, .int .i64 0, .int .i64 0, .slice no ns.length nc, .slice po ps.length pc, .slice none 0 0]); obtain ⟨_, e2, e3⟩ := HDE.out; rw [e3, ← e2])
      · obtain ⟨oj, hoj⟩ : ∃ oj, (qN f d s2 j).2 = some oj := Option.ne_none_iff_exists'.1 hal
        rw [hoj] at c3
        have c3 : wr.cell? ⟨b, 3, none⟩ = some (.bool false) := c3
        have HL2 : Hid (∀ i, i < j + 1 → (qN f d s2 i).2 ≠ none) := hid_of (fun i hi => by rcases Nat.lt_or_ge i j with h1 | h1; exact hL.out i h1; rw [show i = j by omega]; exact hal)
        obtain ⟨x, hx⟩ : ∃ x, x = strU (Wr.tR d (qN f d s2 j).2).1 := ⟨_, rfl⟩
        obtain ⟨t1, ht1⟩ : ∃ t1, t1 = (Wr.tR d (qN f d s2 j).2).2 := ⟨_, rfl⟩
        obtain ⟨u, hu⟩ : ∃ u, u = (f t1).1 := ⟨_, rfl⟩
        obtain ⟨t2, ht2⟩ : ∃ t2, t2 = (f t1).2 := ⟨_, rfl⟩
        have HG2 := HG.out j hlt (fun i hi => HL2.out i (by omega))
        have HX : Hid (ns[j]? = some x) := hid_of (by rw [hx]; exact HG2.1)
        have HU : Hid (ps[j]? = some u) := hid_of (by rw [hu, ht1]; exact HG2.2)
        have HNX : Hid (t2 = (qN f d s2 (j + 1)).2) := hid_of (by rw [ht2, ht1, qN, if_neg hal])
        have K1 := hid_of hk.out.drew
        have CT : Hid (Calls Try.prog 62 #[.pointer (some ⟨b, 0, none⟩)] wr.drew fun e w' => e = .returned (.string (ba x)) ∧ RG b g d wr.drew w' t1) := hid_of (by rw [hx, ht1]; exact text_rg K1.out.st.rg)
        have CR : Hid (∀ wa w2, RG b g d wa w2 t1 → Calls Try.prog 31 #[.pointer (some ⟨b, 0, none⟩), .int .i64 (n : Int)] w2 (RdP b g d u t2 w2)) := hid_of (fun wa w2 k => by rw [hu, ht2]; exact CRF.out t1 wa w2 k)
        obtain ⟨bx, hbx⟩ : ∃ bx, bx = ba x := ⟨_, rfl⟩
        rw [← hbx] at CT
        have HBX := hid_of hbx
        clear hx hu ht1 ht2 hbx hoj hal HG2
        go_wp2
        go_cut [] from 85 to 91 (fun wx => ∃ no2 nc2, Hid (LP b g d w (w.heap.size + 1) ns ps (j + 1) j no2 nc2 po pc qs t1 wx))
        case first =>
          go_region_law (first
            | (go_simp; go_at_call 62; ((with_reducible refine (CT.out).mono ?_); (rintro e w2 ⟨rfl, q1⟩)); have K2 := hid_of (K1.out.call q1); clear q1; obtain ⟨z0, z1, z2, z3, z4, z5⟩ := K2.out.st.cells; have K3 := hid_of (K2.out.alloc (.cells #[.string bx] 9)); obtain ⟨v0, v1, v2, v3, v4, v5⟩ := K3.out.st.cells)
            | (refine step_gen 22 9 (.string ⟨#[]⟩) 16 1 strsE.und strsE.info strsE.one (by decide) (by kernel_rfl) (.tmp 86) (.tmp 89) (by kernel_rfl) (v := .slice no j nc) (by kernel_rfl) K3.out.nam (by have := K3.out.st.hp; omega) (vx := .slice (some ⟨w2.heap.size, 0, none⟩) 1 1) (by kernel_rfl) (src_str w2 bx) (by omega) (by omega) ?_; intro ao cap w4 ga; have K5 := hid_of (K3.out.name HX.out (by rw [← HBX.out]; exact ga)); have B4 := hid_of (K3.out.st.bel (ga_bel ga K3.out.nam (by have := K3.out.st.hp; omega)) (by omega)); obtain ⟨u0, u1, u2, u3, u4, u5⟩ := B4.out.cells; have f3 := B4.out.free 3; clear ga))
          all_goals go_wp2_with fail
          all_goals go_meet
          all_goals exact ⟨_, _, K5⟩
        case rest =>
          obtain ⟨no2, nc2, hk2⟩ := hcut
          have J1 := hid_of hk2.out.drew
          obtain ⟨t0', t1', t2', t3', t4', t5'⟩ := hk2.out.st.cells
          go_wp2
          go_region_law (first
            | (go_simp; go_at_call 31; ((with_reducible refine (CR.out _ _ J1.out.st.rg).mono ?_); (rintro e w2 ⟨a2, ac2, b2, bc2, c2, cc2, rfl, q1, q2⟩)); have J2 := hid_of (J1.out.call q2); have X2 := hid_of (lp_kid J1.out q2 q1); clear q1 q2; obtain ⟨z0, z1, z2, z3, z4, z5⟩ := J2.out.st.cells; have J3 := hid_of (J2.out.alloc (.cells #[.int .i64 u.k, .int .i64 u.lo, .int .i64 u.hi, .slice a2 u.ns.length ac2, .slice b2 u.ps.length bc2, .slice c2 u.rs.length cc2] 26)); have X3 := hid_of ((X2.out.keep (keeps_alloc _ w2 (.cells #[.int .i64 u.k, .int .i64 u.lo, .int .i64 u.hi, .slice a2 u.ns.length ac2, .slice b2 u.ps.length bc2, .slice c2 u.rs.length cc2] 26))).mono (sk_alloc (w.heap.size + 1) w2 (.cells #[.int .i64 u.k, .int .i64 u.lo, .int .i64 u.hi, .slice a2 u.ns.length ac2, .slice b2 u.ps.length bc2, .slice c2 u.rs.length cc2] 26) _ _)); obtain ⟨v0, v1, v2, v3, v4, v5⟩ := J3.out.st.cells)
            | (refine step_gen 23 26 (.agg #[.int .i64 0, .int .i64 0, .int .i64 0, .slice none 0 0, .slice none 0 0, .slice none 0 0]) 96 6 latL6.und latL6.info latL6.cells (by decide) (by kernel_rfl) (.tmp 93) (.tmp 98) (by kernel_rfl) (v := .slice po j pc) (by kernel_rfl) J3.out.par (by have := J3.out.st.hp; omega) (vx := .slice (some ⟨w2.heap.size, 0, none⟩) 1 1) (by kernel_rfl) (src_lat w2 ⟨u.k, u.lo, u.hi, .slice a2 u.ns.length ac2, .slice b2 u.ps.length bc2, .slice c2 u.rs.length cc2⟩ ⟨rfl, rfl, rfl⟩) (by omega) (by omega) ?_; intro ao cap w4 ga; have J5 := hid_of (J3.out.part HU.out X3.out ga); have B4 := hid_of (J3.out.st.bel (ga_bel ga J3.out.par (by have := J3.out.st.hp; omega)) (by omega)); obtain ⟨u0, u1, u2, u3, u4, u5⟩ := B4.out.cells; have f3 := B4.out.free 4; clear ga))
          all_goals go_wp2
          all_goals go_roundw
          all_goals first
            | (exact ⟨j + 1, _, _, _, _, _, by omega, by go_num, HL2, hid_of (by rw [← HNX.out]; exact J5.out)⟩)
            | (simp [intOf]; omega)
    · have hdd2 : decide (j < cn) = false := by simp; omega
      have HDE := hid_of (HD.out j hj hL.out (fun h => absurd h hlt))
      have HF : Hid (LP b g d w (w.heap.size + 1) ns ps ns.length ps.length no nc po pc qs s3 wr) := hid_of (by
        have h1 := hk.out
        obtain ⟨e1, e2, e3⟩ := HDE.out
        rw [e1] at h1
        rw [e3, ← e2]
        exact h1)
      have HNL : Hid (ns.length ≤ 1000) := hid_of (by have := HDE.out; omega)
      go_wp2_with (refine wpList_store_row rfl 26 (.tmp 4) (.tmp 130) rfl w.heap.size #[.int .i64 6, .int .i64 0, .int .i64 0, .slice no j nc, .slice po j pc, .slice none 0 0] rfl rfl 26 _ HF.out.st.res infoLat rfl (by simp [Value.oneCell']) ?_)
      refine bodyPost_ret (results_cell_row rfl _ _ w.heap.size 26 #[.int .i64 6, .int .i64 0, .int .i64 0, .slice no j nc, .slice po j pc, .slice none 0 0] (0, 0) _ rfl (setRow_heap _ _ _ _ _ _ HF.out.st.res) Try.underlying26 rfl infoLat) rfl ?_
      exact RS.fin (t := ⟨6, 0, 0, ns, ps, []⟩) HF.out.st ⟨⟨by simp only [Lat.k]; omega, by simp only [Lat.k]; omega⟩, ⟨by simp only [Lat.lo]; omega, by simp only [Lat.lo]; omega⟩, ⟨by simp only [Lat.hi]; omega, by simp only [Lat.hi]; omega⟩⟩ HON.out (fun y hy => by simp [Lat.rs] at hy) ((HF.out.fin HNL.out).1) ((HF.out.fin HNL.out).2) (rus_nil _ _) _ (by show _ = Ending.returned (.agg #[.int .i64 6, .int .i64 0, .int .i64 0, .slice no ns.length nc, .slice po ps.length pc, .slice none 0 0]); obtain ⟨_, e2, e3⟩ := HDE.out; rw [e3, ← e2])
theorem rz_6b (hdep : dep = (n : Int) + 1 ∧ n ≤ 5) (h6 : d.length ≤ 1000000) (h : IS w b g.ao g.n g.cap d s) (hk : (Wr.uR d s).1 = 6) (o1 : Nat) (hs1 : (Wr.uR d s).2 = some o1) (hc8 : 8 < (Wr.cR d (some o1)).1) :
    Calls Try.prog 31 #[.pointer (some ⟨b, 0, none⟩), .int .i64 dep] w (RdP b g d (rrF d (n + 1) s).1 (rrF d (n + 1) s).2 w) := by
  have HBG : Hid (b < w.heap.size) := hid_of h.bad.2.1
  have hgn : g.n = d.length := h.bad.2.2.2.symm
  have hsm : d.length ≤ 1000000 := h6
  have hdd : decide (dep < 1) = false := by simp; omega
  have hdw : IntKind.i64.wrap (dep - 1) = (n : Int) := by rw [IntWalk.i64_in _ (by omega)]; omega
  obtain ⟨cn, hcn⟩ : ∃ cn, cn = (Wr.cR d (some o1)).1 := ⟨_, rfl⟩
  obtain ⟨s2, hs2⟩ : ∃ s2, s2 = (Wr.cR d (some o1)).2 := ⟨_, rfl⟩
  have hpc : pcF d (some o1) = (cn, none) := by rw [pcF, ← hcn, if_pos (by omega)]
  have hqn : qN (rrF d n) d none cn = (([], []), none) := by
    have := qN_dead (rrF d n) d none 0 rfl cn
    rwa [Nat.zero_add] at this
  have hn8 : 8 < cn := by rw [hcn]; exact hc8
  have hcd : cn ≤ 1000000 := by have := cR_le d (some o1); omega
  have EE : Hid (rrF d (n + 1) s = (⟨6, 0, 0, [], [], []⟩, none)) := hid_of (by
    rw [rrF, hk, if_neg (by rw [hs1]; simp), if_neg (by decide : ¬(6 = 2 ∨ 6 = 3)), if_neg (by decide : ¬(6 = 4 ∨ 6 = 8)), if_neg (by decide : ¬(6 = 5)), if_pos (by decide : 6 = 6), hs1, hpc, hqn]
    try rfl)
  rw [EE.out]
  show Calls Try.prog 31 #[.pointer (some ⟨b, 0, none⟩), .int .i64 dep] w (RdP b g d ⟨6, 0, 0, [], [], []⟩ (none) w)
  have S0 : Hid (RS b g d w (w.heap.size + 1) (.int .i64 0) (.int .i64 0) (.int .i64 0) (.slice none 0 0) (.slice none 0 0) (.slice none 0 0) s ((w.alloc (.cells [.int .i64 0, .int .i64 0, .int .i64 0, .slice none 0 0, .slice none 0 0, .slice none 0 0].toArray 26 (0, 0))).alloc (.cells [.int .i64 0, .int .i64 0, .int .i64 0, .slice none 0 0, .slice none 0 0, .slice none 0 0].toArray 26 (0, 0)))) := hid_of (RS.start h rfl)
  have C0 : Hid (Calls Try.prog 57 #[.pointer (some ⟨b, 0, none⟩)] ((w.alloc (.cells [.int .i64 0, .int .i64 0, .int .i64 0, .slice none 0 0, .slice none 0 0, .slice none 0 0].toArray 26 (0, 0))).alloc (.cells [.int .i64 0, .int .i64 0, .int .i64 0, .slice none 0 0, .slice none 0 0, .slice none 0 0].toArray 26 (0, 0))) (fun e w' => e = .returned (.int .u64 6) ∧ RG b g d ((w.alloc (.cells [.int .i64 0, .int .i64 0, .int .i64 0, .slice none 0 0, .slice none 0 0, .slice none 0 0].toArray 26 (0, 0))).alloc (.cells [.int .i64 0, .int .i64 0, .int .i64 0, .slice none 0 0, .slice none 0 0, .slice none 0 0].toArray 26 (0, 0))) w' (some o1))) := hid_of (by
    have h1 := uint_rg (RG.start S0.out.rg.st)
    rw [hk, hs1] at h1
    exact h1)
  have CC : Hid (∀ wa w2, RG b g d wa w2 (some o1) → Calls Try.prog 61 #[.pointer (some ⟨b, 0, none⟩)] w2 fun e w' => e = .returned (.int .i64 cn) ∧ RG b g d w2 w' s2) := hid_of (fun wa w2 k => by rw [hcn, hs2]; exact count_rg k)
  have CF : Hid (∀ wa w2, RG b g d wa w2 s2 → Calls Try.prog 58 #[.pointer (some ⟨b, 0, none⟩)] w2 fun e w' => e = .returned (.tuple #[]) ∧ RG b g d w2 w' none) := hid_of (fun wa w2 k => fail_rg k)
  have hd8 : decide ((cn : Int) > 8) = true := by simp; omega
  have hd9 : decide (8 < cn) = true := by simp; omega
  have hd10 : decide (0 < cn) = true := by simp; omega
  have hd11 : decide ((0 : Int) < (cn : Int)) = true := by simp; omega
  clear hdep h hk hs1 hs2 hcn hpc hqn hsm h6 hgn hc8
  go_enter Try.func31, Try.ntmps31
  go_wp2_with (first
    | (go_at_call 57; ((with_reducible refine (C0.out).mono ?_); (rintro e w1 ⟨rfl, q1⟩)); have R0 := hid_of (S0.out.call q1); clear q1; have b3 : w1.cell? ⟨b, 3, none⟩ = some (.bool false) := R0.out.rg.st.bad.1; obtain ⟨p0, p1, p2, p3, p4, p5⟩ := R0.out.cells; have f0 := R0.out.free 0; have R1 := hid_of (R0.out.set 0 (.int .i64 6) rfl); obtain ⟨r0, r1, r2, r3, r4, r5⟩ := R1.out.cells)
    | (go_at_call 61; ((with_reducible refine (CC.out _ _ R1.out.rg).mono ?_); (rintro e w2 ⟨rfl, q1⟩)); have R2 := hid_of (R1.out.call q1); clear q1)
    | (go_at_call 58; ((with_reducible refine (CF.out _ _ R2.out.rg).mono ?_); (rintro e w3 ⟨rfl, q1⟩)); have R3 := hid_of (R2.out.call q1); clear q1))
  go_loopw [8] (fun iv wr => iv = .int .i64 0 ∧ Hid (RS b g d w (w.heap.size + 1) (.int .i64 6) (.int .i64 0) (.int .i64 0) (.slice none 0 0) (.slice none 0 0) (.slice none 0 0) none wr)) (fun _ _ => 0)
  case atStart => exact ⟨rfl, R3⟩
  case round =>
    obtain ⟨rfl, hk⟩ := hrel
    obtain ⟨y0, y1, y2, y3, y4, y5⟩ := hk.out.cells
    have c3 : wr.cell? ⟨b, 3, none⟩ = some (.bool true) := hk.out.rg.st.bad.1
    go_wp2_with (refine wpList_store_row rfl 26 (.tmp 4) (.tmp 130) rfl w.heap.size #[.int .i64 6, .int .i64 0, .int .i64 0, .slice none 0 0, .slice none 0 0, .slice none 0 0] rfl rfl 26 _ hk.out.res infoLat rfl (by simp [Value.oneCell']) ?_)
    refine bodyPost_ret (results_cell_row rfl _ _ w.heap.size 26 #[.int .i64 6, .int .i64 0, .int .i64 0, .slice none 0 0, .slice none 0 0, .slice none 0 0] (0, 0) _ rfl (setRow_heap _ _ _ _ _ _ hk.out.res) Try.underlying26 rfl infoLat) rfl ?_
    exact RS.fin (t := ⟨6, 0, 0, [], [], []⟩) hk.out ⟨⟨by simp only [Lat.k]; omega, by simp only [Lat.k]; omega⟩, ⟨by simp only [Lat.lo]; omega, by simp only [Lat.lo]; omega⟩, ⟨by simp only [Lat.hi]; omega, by simp only [Lat.hi]; omega⟩⟩ (fun y hy => by simp [Lat.ns] at hy) (fun y hy => by simp [Lat.rs] at hy) (ns_nil _ _) (ps_nil _ _) (rus_nil _ _) _ rfl
theorem rz_10 (hdep : dep = (n : Int) + 1 ∧ n ≤ 5) (h6 : d.length ≤ 1000000) (h : IS w b g.ao g.n g.cap d s) (hk : (Wr.uR d s).1 = 10) (o1 : Nat) (hs1 : (Wr.uR d s).2 = some o1) :
    Calls Try.prog 31 #[.pointer (some ⟨b, 0, none⟩), .int .i64 dep] w (RdP b g d (rrF d (n + 1) s).1 (rrF d (n + 1) s).2 w) := by
  have HBG : Hid (b < w.heap.size) := hid_of h.bad.2.1
  have hgn : g.n = d.length := h.bad.2.2.2.symm
  have hsm : d.length ≤ 1000000 := h6
  have hdd : decide (dep < 1) = false := by simp; omega
  have hdw : IntKind.i64.wrap (dep - 1) = (n : Int) := by rw [IntWalk.i64_in _ (by omega)]; omega
  obtain ⟨ns, hns⟩ : ∃ ns, ns = (rlF d (some o1)).1 := ⟨_, rfl⟩
  obtain ⟨s2, hs2⟩ : ∃ s2, s2 = (rlF d (some o1)).2 := ⟨_, rfl⟩
  have HON : Hid (Ok ns) := hid_of (fun y hy => by have := (rlF_small d (some o1)).1 y (by rw [← hns]; exact hy); omega)
  obtain ⟨m, hm⟩ : ∃ m, m = (Wr.cR d s2).1 := ⟨_, rfl⟩
  obtain ⟨s3, hs3⟩ : ∃ s3, s3 = (Wr.cR d s2).2 := ⟨_, rfl⟩
  obtain ⟨rs, hrs⟩ : ∃ rs, rs = (hN d s3 m).1 := ⟨_, rfl⟩
  obtain ⟨s4, hs4⟩ : ∃ s4, s4 = (hN d s3 m).2 := ⟨_, rfl⟩
  have hm6 : m ≤ 1000000 := by have := cR_le d s2; omega
  have HOR : Hid (OkR rs) := hid_of (fun r hr => by
    obtain ⟨a1, a2, a3⟩ := hN_small d s3 m r (by rw [← hrs]; exact hr)
    exact ⟨fun y hy => by have := a1 y hy; omega, by omega, by omega⟩)
  have HG : Hid (∀ j, j < m → (∀ i, i ≤ j → (hN d s3 i).2 ≠ none) → rs[j]? = some ((rlF d (hN d s3 j).2).1, strU (Wr.tR d (rlF d (hN d s3 j).2).2).1)) := hid_of (fun j hj hL => by rw [hrs]; exact hN_get d s3 j m hj hL)
  have HD : Hid (∀ j, j ≤ m → (∀ i, i < j → (hN d s3 i).2 ≠ none) → (j < m → (hN d s3 j).2 = none) → (hN d s3 j).2 = s4 ∧ j = rs.length) := hid_of (fun j hj hL hE => by
    have e : hN d s3 m = hN d s3 j := by
      rcases Nat.lt_or_ge j m with h1 | h1
      · have := hN_dead d s3 j (hE h1) (m - j)
        rwa [show j + (m - j) = m by omega] at this
      · rw [show m = j by omega]
    rw [hrs, hs4, e, hN_len d s3 j hL]
    exact ⟨rfl, rfl⟩)
  have EE : Hid (rrF d (n + 1) s = (⟨10, 0, 0, ns, [], rs⟩, s4)) := hid_of (by
    rw [rrF, hk, if_neg (by rw [hs1]; simp), if_neg (by decide : ¬(10 = 2 ∨ 10 = 3)), if_neg (by decide : ¬(10 = 4 ∨ 10 = 8)), if_neg (by decide : ¬(10 = 5)), if_neg (by decide : ¬(10 = 6)), if_neg (by decide : ¬(10 = 7)), if_pos (by decide : 10 = 10), hs1, ← hns, ← hs2, ← hm, ← hs3, ← hrs, ← hs4]
    try rfl)
  rw [EE.out]
  show Calls Try.prog 31 #[.pointer (some ⟨b, 0, none⟩), .int .i64 dep] w (RdP b g d ⟨10, 0, 0, ns, [], rs⟩ (s4) w)
  have S0 : Hid (RS b g d w (w.heap.size + 1) (.int .i64 0) (.int .i64 0) (.int .i64 0) (.slice none 0 0) (.slice none 0 0) (.slice none 0 0) s ((w.alloc (.cells [.int .i64 0, .int .i64 0, .int .i64 0, .slice none 0 0, .slice none 0 0, .slice none 0 0].toArray 26 (0, 0))).alloc (.cells [.int .i64 0, .int .i64 0, .int .i64 0, .slice none 0 0, .slice none 0 0, .slice none 0 0].toArray 26 (0, 0)))) := hid_of (RS.start h rfl)
  have C0 : Hid (Calls Try.prog 57 #[.pointer (some ⟨b, 0, none⟩)] ((w.alloc (.cells [.int .i64 0, .int .i64 0, .int .i64 0, .slice none 0 0, .slice none 0 0, .slice none 0 0].toArray 26 (0, 0))).alloc (.cells [.int .i64 0, .int .i64 0, .int .i64 0, .slice none 0 0, .slice none 0 0, .slice none 0 0].toArray 26 (0, 0))) (fun e w' => e = .returned (.int .u64 10) ∧ RG b g d ((w.alloc (.cells [.int .i64 0, .int .i64 0, .int .i64 0, .slice none 0 0, .slice none 0 0, .slice none 0 0].toArray 26 (0, 0))).alloc (.cells [.int .i64 0, .int .i64 0, .int .i64 0, .slice none 0 0, .slice none 0 0, .slice none 0 0].toArray 26 (0, 0))) w' (some o1))) := hid_of (by
    have h1 := uint_rg (RG.start S0.out.rg.st)
    rw [hk, hs1] at h1
    exact h1)
  have CN : Hid (∀ wa w2, RG b g d wa w2 (some o1) → Calls Try.prog 60 #[.pointer (some ⟨b, 0, none⟩)] w2 (NaP b g d ns s2 w2)) := hid_of (fun wa w2 k => by rw [hns, hs2]; exact list_rg k (by omega))
  have CC : Hid (∀ wa w2, RG b g d wa w2 s2 → Calls Try.prog 61 #[.pointer (some ⟨b, 0, none⟩)] w2 fun e w' => e = .returned (.int .i64 m) ∧ RG b g d w2 w' s3) := hid_of (fun wa w2 k => by rw [hm, hs3]; exact count_rg k)
  have HGN : Hid (g.n ≤ 1000000) := hid_of (by omega)
  clear hdep h hk hs1 hns hs2 hm hs3 hrs hs4 hsm h6 hgn
  go_enter Try.func31, Try.ntmps31
  go_wp2_with (first
    | (go_at_call 57; ((with_reducible refine (C0.out).mono ?_); (rintro e w1 ⟨rfl, q1⟩)); have R0 := hid_of (S0.out.call q1); clear q1; have b3 : w1.cell? ⟨b, 3, none⟩ = some (.bool false) := R0.out.rg.st.bad.1; obtain ⟨p0, p1, p2, p3, p4, p5⟩ := R0.out.cells; have f0 := R0.out.free 0; have R1 := hid_of (R0.out.set 0 (.int .i64 10) rfl); obtain ⟨r0, r1, r2, r3, r4, r5⟩ := R1.out.cells)
    | (go_at_call 60; ((with_reducible refine (CN.out _ _ R1.out.rg).mono ?_); (rintro e w2 ⟨xo, xc, rfl, q1, q2, q3⟩)); have R2 := hid_of (R1.out.call q3); have N2 := hid_of (ns_mk (T := Bh (w.heap.size + 1) w2) q1 q2 (fun k hk => ⟨Nat.lt_of_lt_of_le R1.out.hp.2 hk.1, hk.2⟩)); clear q1 q2 q3; have R3 := hid_of (R2.out.set 3 (.slice xo ns.length xc) rfl); have N3 := hid_of (N2.out.setBox 3 (.slice xo ns.length xc)); obtain ⟨z0, z1, z2, z3, z4, z5⟩ := R2.out.cells; have f3 := R2.out.free 3; obtain ⟨v0, v1, v2, v3, v4, v5⟩ := R3.out.cells))
  go_loopw [8] (fun iv wr => iv = .int .i64 0 ∧ Hid (RS b g d w (w.heap.size + 1) (.int .i64 10) (.int .i64 0) (.int .i64 0) (.slice xo ns.length xc) (.slice none 0 0) (.slice none 0 0) s2 wr) ∧ Hid (NS (Bh (w.heap.size + 1) wr) wr (.slice xo ns.length xc) ns)) (fun _ _ => 0)
  case atStart => exact ⟨rfl, R3, N3⟩
  case round =>
    obtain ⟨rfl, hk, hn⟩ := hrel
    obtain ⟨y0, y1, y2, y3, y4, y5⟩ := hk.out.cells
    go_wp2_with (go_at_call 61; ((with_reducible refine (CC.out _ _ hk.out.rg).mono ?_); (rintro e w3 ⟨rfl, q1⟩)); have L3 := hid_of (show LQ b g d w (w.heap.size + 1) ns rs xo xc 0 none 0 [] s3 w3 from lq_start (hk.out.call q1) (ns_call hn.out hk.out q1)); clear q1)
    go_loopw [10, 11] (fun iv v11 wr => ∃ (x11 : Value) (j : Nat) (ro : Option Addr) (rc : Nat) (ds : List PV), v11 = x11 ∧ j ≤ m ∧ iv = .int .i64 j ∧ Hid (∀ i, i < j → (hN d s3 i).2 ≠ none) ∧ Hid (LQ b g d w (w.heap.size + 1) ns rs xo xc j ro rc ds (hN d s3 j).2 wr)) (fun iv _ _ => m - (intOf iv).toNat)
    case atStart => exact ⟨_, 0, none, 0, [], rfl, Nat.zero_le _, rfl, hid_of (fun i hi => absurd hi (Nat.not_lt_zero i)), L3⟩
    case round =>
      obtain ⟨x11, j, ro, rc, ds, rfl, hj, rfl, hL, hk⟩ := hrel
      have c3 := hk.out.st.rg.st.bad.1
      obtain ⟨y0, y1, y2, y3, y4, y5⟩ := hk.out.st.cells
      by_cases hlt : j < m
      · have hdd2 : decide (j < m) = true := by simp; omega
        by_cases hal : (hN d s3 j).2 = none
        · have HDE := hid_of (HD.out j hj hL.out (fun _ => hal))
          rw [hal] at c3
          have c3 : wr.cell? ⟨b, 3, none⟩ = some (.bool true) := c3
          have HF : Hid (LQ b g d w (w.heap.size + 1) ns rs xo xc rs.length ro rc ds s4 wr) := hid_of (by
            have h1 := hk.out
            obtain ⟨e1, e2⟩ := HDE.out
            rw [e1] at h1
            rw [← e2]
            exact h1)
          go_wp2_with (refine wpList_store_row rfl 26 (.tmp 4) (.tmp 130) rfl w.heap.size #[.int .i64 10, .int .i64 0, .int .i64 0, .slice xo ns.length xc, .slice none 0 0, .slice ro j rc] rfl rfl 26 _ HF.out.st.res infoLat rfl (by simp [Value.oneCell']) ?_)
          refine bodyPost_ret (results_cell_row rfl _ _ w.heap.size 26 #[.int .i64 10, .int .i64 0, .int .i64 0, .slice xo ns.length xc, .slice none 0 0, .slice ro j rc] (0, 0) _ rfl (setRow_heap _ _ _ _ _ _ HF.out.st.res) Try.underlying26 rfl infoLat) rfl ?_
          exact RS.fin (t := ⟨10, 0, 0, ns, [], rs⟩) HF.out.st ⟨⟨by simp only [Lat.k]; omega, by simp only [Lat.k]; omega⟩, ⟨by simp only [Lat.lo]; omega, by simp only [Lat.lo]; omega⟩, ⟨by simp only [Lat.hi]; omega, by simp only [Lat.hi]; omega⟩⟩ HON.out HOR.out (HF.out.fin.1) (ps_nil _ _) (HF.out.fin.2) _ (by show _ = Ending.returned (.agg #[.int .i64 10, .int .i64 0, .int .i64 0, .slice xo ns.length xc, .slice none 0 0, .slice ro rs.length rc]); rw [← HDE.out.2])
        · obtain ⟨oj, hoj⟩ : ∃ oj, (hN d s3 j).2 = some oj := Option.ne_none_iff_exists'.1 hal
          rw [hoj] at c3
          have c3 : wr.cell? ⟨b, 3, none⟩ = some (.bool false) := c3
          have HL2 : Hid (∀ i, i < j + 1 → (hN d s3 i).2 ≠ none) := hid_of (fun i hi => by rcases Nat.lt_or_ge i j with h1 | h1; exact hL.out i h1; rw [show i = j by omega]; exact hal)
          obtain ⟨q, hq⟩ : ∃ q, q = ((rlF d (hN d s3 j).2).1, strU (Wr.tR d (rlF d (hN d s3 j).2).2).1) := ⟨_, rfl⟩
          obtain ⟨t1, ht1⟩ : ∃ t1, t1 = (rlF d (hN d s3 j).2).2 := ⟨_, rfl⟩
          obtain ⟨t2, ht2⟩ : ∃ t2, t2 = (Wr.tR d t1).2 := ⟨_, rfl⟩
          have HQ : Hid (rs[j]? = some q) := hid_of (by rw [hq]; exact HG.out j hlt (fun i hi => HL2.out i (by omega)))
          have HNX : Hid (t2 = (hN d s3 (j + 1)).2) := hid_of (by rw [ht2, ht1, hN, if_neg hal])
          have C2 : Hid (Calls Try.prog 60 #[.pointer (some ⟨b, 0, none⟩)] wr (NaP b g d q.1 t1 wr)) := hid_of (by rw [hq, ht1]; exact list_rg hk.out.st.rg HGN.out)
          have CT : Hid (∀ wa w2, RG b g d wa w2 t1 → Calls Try.prog 62 #[.pointer (some ⟨b, 0, none⟩)] w2 fun e w' => e = .returned (.string (ba q.2)) ∧ RG b g d w2 w' t2) := hid_of (fun wa w2 k => by rw [hq, ht2, ht1]; rw [ht1] at k; exact text_rg k)
          obtain ⟨bx, hbx⟩ : ∃ bx, bx = ba q.2 := ⟨_, rfl⟩
          rw [← hbx] at CT
          have HBX := hid_of hbx
          clear hq hbx ht1 ht2 hoj hal
          go_wp2_with (first
            | (go_at_call 60; ((with_reducible refine (C2.out).mono ?_); (rintro e w4 ⟨yo, yc, rfl, q1, q2, q3⟩)); have K4 := hid_of (hk.out.call q3); have P4 := hid_of (lq_kid hk.out q3 q1 q2); clear q1 q2 q3; have X5 := hid_of (heap_alloc_new w4 (.cells #[.slice yo q.1.length yc, .string ⟨#[]⟩] 58)); have R5 := hid_of (K4.out.st.alloc (.cells #[.slice yo q.1.length yc, .string ⟨#[]⟩] 58)))
            | (go_at_call 62; ((with_reducible refine (CT.out _ _ R5.out.rg).mono ?_); (rintro e w5 ⟨rfl, q1⟩)); have R6 := hid_of (R5.out.call q1); have R7 := hid_of (R6.out.setX w4.heap.size 1 (.string bx) K4.out.st.hp.2); have K7 := hid_of (K4.out.keep R7.out (keeps_x q1 (Nat.le_of_lt (Nat.lt_succ_of_lt HBG.out)) 1 (.string bx))); have P7 := hid_of (ns_x P4.out q1 (Nat.le_of_lt (Nat.lt_succ_of_lt HBG.out)) 1 (.string bx)); have X6 : Hid (w5.heap[w4.heap.size]? = some (.cells #[.slice yo q.1.length yc, .string ⟨#[]⟩] 58)) := hid_of ((q1.blk (by simp) (by have := K4.out.st.hp; have := K4.out.st.hb; omega)).trans X5.out); clear q1; have X7 : Hid ((w5.setCell ⟨w4.heap.size, 1, none⟩ (.string bx)).heap[w4.heap.size]? = some (.cells #[.slice yo q.1.length yc, .string bx] 58)) := hid_of (Go.Proofs.Ytcjnmgokddfidaa.blk_setCell (cur := [.slice yo q.1.length yc, .string ⟨#[]⟩]) (k := 1) X6.out); have xf := fr_blk (cs := [.slice yo q.1.length yc, .string ⟨#[]⟩]) X6.out 1; have x0 : w5.cell? ⟨w4.heap.size, 0, none⟩ = some (.slice yo q.1.length yc) := cell_blk (cs := [.slice yo q.1.length yc, .string ⟨#[]⟩]) X6.out rfl; have x1 : w5.cell? ⟨w4.heap.size, 1, none⟩ = some (.string ⟨#[]⟩) := cell_blk (cs := [.slice yo q.1.length yc, .string ⟨#[]⟩]) X6.out rfl; have e0 : (w5.setCell ⟨w4.heap.size, 1, none⟩ (.string bx)).cell? ⟨w4.heap.size, 0, none⟩ = some (.slice yo q.1.length yc) := cell_blk (cs := [.slice yo q.1.length yc, .string bx]) X7.out rfl; have e1 : (w5.setCell ⟨w4.heap.size, 1, none⟩ (.string bx)).cell? ⟨w4.heap.size, 1, none⟩ = some (.string bx) := cell_blk (cs := [.slice yo q.1.length yc, .string bx]) X7.out rfl; obtain ⟨v0, v1, v2, v3, v4, v5⟩ := K7.out.st.cells; have K8 := hid_of (K7.out.alloc (.cells #[.slice yo q.1.length yc, .string bx] 58)); have P8 := hid_of ((P7.out.keep (keeps_alloc _ (w5.setCell ⟨w4.heap.size, 1, none⟩ (.string bx)) (.cells #[.slice yo q.1.length yc, .string bx] 58))).mono (sk_alloc (w.heap.size + 1) (w5.setCell ⟨w4.heap.size, 1, none⟩ (.string bx)) (.cells #[.slice yo q.1.length yc, .string bx] 58) _ _)); obtain ⟨u0, u1, u2, u3, u4, u5⟩ := K8.out.st.cells)
            | (at_builtin; go_loud ((refine wpList_gen 24 58 (.agg #[.slice none 0 0, .string ⟨#[]⟩]) 40 2 rulL2.und rulL2.info rulL2.two (by decide) rfl (.tmp 125) (.tmp 127) rfl (v := .slice ro j rc) rfl K8.out.rul (by have := K8.out.st.hp; omega) (vx := .slice (some ⟨w5.heap.size, 0, none⟩) 1 1) rfl (by have h9 := src_rul (w5.setCell ⟨w4.heap.size, 1, none⟩ (.string bx)) (.slice yo q.1.length yc) (.string bx) rfl rfl; rw [show (w5.setCell ⟨w4.heap.size, 1, none⟩ (.string bx)).heap.size = w5.heap.size by simp] at h9; exact h9) (by omega) (by omega) ?_); intro ao cap w6 ga; have K9 := hid_of (K8.out.rule HQ.out P8.out (by rw [← HBX.out]; exact ga)); have B8 := hid_of (K8.out.st.bel (ga_bel ga K8.out.rul (by have := K8.out.st.hp; omega)) (by omega)); obtain ⟨t0', t1', t2', t3', t4', t5'⟩ := B8.out.cells; have f5 := B8.out.free 5; clear ga)))
          go_roundw
          case rel => exact ⟨_, j + 1, _, _, _, rfl, by omega, by go_num, HL2, hid_of (by rw [← HNX.out]; exact K9.out)⟩
          case measure => simp [intOf]; omega
      · have hdd2 : decide (j < m) = false := by simp; omega
        have HDE := hid_of (HD.out j hj hL.out (fun h => absurd h hlt))
        have HF : Hid (LQ b g d w (w.heap.size + 1) ns rs xo xc rs.length ro rc ds s4 wr) := hid_of (by
          have h1 := hk.out
          obtain ⟨e1, e2⟩ := HDE.out
          rw [e1] at h1
          rw [← e2]
          exact h1)
        go_wp2_with (refine wpList_store_row rfl 26 (.tmp 4) (.tmp 130) rfl w.heap.size #[.int .i64 10, .int .i64 0, .int .i64 0, .slice xo ns.length xc, .slice none 0 0, .slice ro j rc] rfl rfl 26 _ HF.out.st.res infoLat rfl (by simp [Value.oneCell']) ?_)
        refine bodyPost_ret (results_cell_row rfl _ _ w.heap.size 26 #[.int .i64 10, .int .i64 0, .int .i64 0, .slice xo ns.length xc, .slice none 0 0, .slice ro j rc] (0, 0) _ rfl (setRow_heap _ _ _ _ _ _ HF.out.st.res) Try.underlying26 rfl infoLat) rfl ?_
        exact RS.fin (t := ⟨10, 0, 0, ns, [], rs⟩) HF.out.st ⟨⟨by simp only [Lat.k]; omega, by simp only [Lat.k]; omega⟩, ⟨by simp only [Lat.lo]; omega, by simp only [Lat.lo]; omega⟩, ⟨by simp only [Lat.hi]; omega, by simp only [Lat.hi]; omega⟩⟩ HON.out HOR.out (HF.out.fin.1) (ps_nil _ _) (HF.out.fin.2) _ (by show _ = Ending.returned (.agg #[.int .i64 10, .int .i64 0, .int .i64 0, .slice xo ns.length xc, .slice none 0 0, .slice ro rs.length rc]); rw [← HDE.out.2])
end
/-- The reference's read, whatever the In holds. -/
theorem read_all (b : Nat) (g : SV) (d : List Int) (h6 : d.length ≤ 1000000) : ∀ n : Nat, n ≤ 6 → RQ b g d n
  | 0, h => fun s w hs => by
    show Calls Try.prog 31 #[.pointer (some ⟨b, 0, none⟩), .int .i64 ((0 : Nat) : Int)] w (RdP b g d ⟨0, 0, 0, [], [], []⟩ none w)
    cases e : (Wr.uR d s).2 with
    | none => exact rz_dead b g _ d s w e hs
    | some o1 => exact rz_deep b g _ d s w o1 e (by decide) hs
  | n + 1, h => fun s w hs => by
    have IH := read_all b g d h6 n (by omega)
    have hd : ((n + 1 : Nat) : Int) = (n : Int) + 1 ∧ n ≤ 5 := ⟨by omega, by omega⟩
    cases e : (Wr.uR d s).2 with
    | none =>
      rw [show rrF d (n + 1) s = (⟨0, 0, 0, [], [], []⟩, none) by rw [rrF, if_pos (Or.inl e)]]
      exact rz_dead b g _ d s w e hs
    | some o1 =>
      by_cases k0 : (Wr.uR d s).1 = 0
      · rw [show rrF d (n + 1) s = (⟨0, 0, 0, [], [], []⟩, none) by rw [rrF, if_pos (Or.inr (Or.inl (by omega)))]]
        exact rz_small b g _ d s w o1 e (by omega) k0 hs
      by_cases k1 : 10 < (Wr.uR d s).1
      · rw [show rrF d (n + 1) s = (⟨0, 0, 0, [], [], []⟩, none) by rw [rrF, if_pos (Or.inr (Or.inr k1))]]
        exact rz_kind b g _ d s w o1 e (by omega) k1 hs
      have hc : (Wr.uR d s).1 = 1 ∨ (Wr.uR d s).1 = 2 ∨ (Wr.uR d s).1 = 3 ∨ (Wr.uR d s).1 = 4 ∨ (Wr.uR d s).1 = 5 ∨ (Wr.uR d s).1 = 6 ∨ (Wr.uR d s).1 = 7 ∨ (Wr.uR d s).1 = 8 ∨ (Wr.uR d s).1 = 9 ∨ (Wr.uR d s).1 = 10 := by omega
      rcases hc with k | k | k | k | k | k | k | k | k | k
      · exact rz_1 b g n _ d s w hd h6 hs k o1 e
      · exact rz_2 b g n _ d s w hd h6 hs k o1 e
      · exact rz_3 b g n _ d s w hd h6 hs k o1 e
      · exact rz_4 b g n _ d s w hd h6 hs k o1 e
      · exact rz_5 b g n _ d s w hd h6 hs k o1 e IH
      · by_cases c8 : (Wr.cR d (some o1)).1 ≤ 8
        · exact rz_6 b g n _ d s w hd h6 hs k o1 e c8 IH
        · exact rz_6b b g n _ d s w hd h6 hs k o1 e (by omega)
      · exact rz_7 b g n _ d s w hd h6 hs k o1 e IH
      · exact rz_8 b g n _ d s w hd h6 hs k o1 e
      · exact rz_9 b g n _ d s w hd h6 hs k o1 e
      · exact rz_10 b g n _ d s w hd h6 hs k o1 e
end Rx
end Go.Proofs.Ytcjnmgokddfidaa
