/- Texts in one: JfC, JfD, DsMth, JnDisk, JfE, JfF, JfG, JfH, JfI, JfJ, JfK, JfL. -/
import Derived.Test.YtofmijebinnejaaMgRB
import Derived.Deep.RegionHeld3
set_option linter.unusedVariables false
set_option linter.unusedSimpArgs false
/- The journal's decode. Bounds on sizes alone. -/
namespace Go.Proofs.Ytofmijebinnejaa
open Go.RowKit
open Wr (enc enc_length_10 enc_length_pos Rst left_any newReader_any rbytes_ok rbytes_bad RTo decRun decRun_some)
set_option maxRecDepth 100000
set_option maxHeartbeats 3200000

theorem rowE : Elem Try.prog 34 46 (.slice none 0 0) 24 := ⟨Try.underlying34, by kernel_rfl, rfl⟩
theorem src_one (W : World) (v : Value) (hv : v.oneCell' = true) : Src Try.prog 1 34 (.slice (some ⟨W.heap.size, 0, none⟩) 1 1) 1 [v] (W.alloc (.cells #[v] 46)) :=
  (rd_new (l := [v]) rfl rfl (by simp)).srcs rowE (by intro u hu; rw [List.mem_singleton.1 hu]; exact hv)
/-- The records read so far, apart from the Reader's block. -/
structure RK (w wr : World) (b g : Nat) (vs : Value) (acc : List (List Int)) (xs : List Value) : Prop where
  bel : Below w.heap.size w wr
  own : wr.ownsRow w.heap.size 46 1 vs acc.length xs
  nb : vs.ownBlock ≠ some b ∧ vs.ownBlock ≠ some g
  ent : ∀ (i : Nat) (x : Value) (l : List Int), xs[i]? = some x → acc[i]? = some l → CR (fun k => w.heap.size ≤ k ∧ k ≠ b ∧ k ≠ g ∧ vs.ownBlock ≠ some k) wr x l
section
variable {w wr w3 : World} {b g : Nat} {vs : Value} {acc : List (List Int)} {xs : List Value}
theorem RK.xl (h : RK w wr b g vs acc xs) : xs.length = acc.length := by have := h.own.1; omega
theorem RK.kept (h : RK w wr b g vs acc xs) (hb : w.heap.size ≤ b) (k : Wr.Kept (fun k => k = b) wr w3) : RK w w3 b g vs acc xs :=
  ⟨⟨k.os.trans h.bel.os, k.tape.trans h.bel.tape, k.output.trans h.bel.output, Nat.le_trans h.bel.size k.size, fun q hq => (k.block q (by have := h.bel.size; omega) (by omega)).trans (h.bel.block q hq)⟩,
    own_same h.own fun q hq => k.block q (h.own.lt q hq).2 (fun e => h.nb.1 (by rw [← e]; exact hq)), h.nb, fun i x l hx hl => (h.ent i x l hx hl).keep ⟨k.size, fun q hq hlt => k.block q hlt hq.2.1⟩⟩
theorem RK.drewN (h : RK w wr b g vs acc xs) (m : Nat) : RK w (wr.drewN m) b g vs acc xs := ⟨bel_drewN h.bel m, own_same h.own fun _ _ => rfl, h.nb, fun i x l hx hl => (h.ent i x l hx hl).keep ⟨Nat.le_refl _, fun _ _ _ => rfl⟩⟩
/-- A record more. -/
theorem RK.push (h : RK w wr b g vs acc xs) (hb : w.heap.size ≤ b ∧ b < wr.heap.size ∧ g < wr.heap.size) (k : Wr.Kept (fun k => k = b) wr w3) {q : List Int} {n : Nat} (hn : n = q.length) (hq9 : q.length ≤ 9223372036854775807) (hr : w3.heap[wr.heap.size]? = some (.cells (by8 q).toArray 5 (0, 0)))
    {ao : Option Addr} {cap : Nat} {w5 : World} (ga : GA w.heap.size 46 1 (w3.alloc (.cells #[.slice (some ⟨wr.heap.size, 0, none⟩) n n] 46)) w5 vs (.slice ao (acc.length + 1) cap) (acc.length + 1) (xs ++ [.slice (some ⟨wr.heap.size, 0, none⟩) n n])) :
    RK w w5 b g (.slice ao (acc.length + 1) cap) (acc ++ [q]) (xs ++ [.slice (some ⟨wr.heap.size, 0, none⟩) n n]) := by
  subst hn
  have h3 := h.kept hb.1 k
  have hlt3 := lt_of_block hr
  have s4 : (w3.alloc (.cells #[.slice (some ⟨wr.heap.size, 0, none⟩) q.length q.length] 46)).heap.size = w3.heap.size + 1 := by simp
  have ba := bel_alloc w3 (.cells #[.slice (some ⟨wr.heap.size, 0, none⟩) q.length q.length] 46)
  have hfr : ∀ k, (Value.slice ao (acc.length + 1) cap).ownBlock = some k → vs.ownBlock = some k ∨ k = w3.heap.size + 1 := fun k hk => by
    rcases ga.fr with e | e
    · exact Or.inl (by rw [← e]; exact hk)
    · rw [e] at hk; exact Or.inr (by rw [← s4]; exact (Option.some.inj hk).symm)
  have k5 : ∀ k, k < w3.heap.size → vs.ownBlock ≠ some k → w5.heap[k]? = w3.heap[k]? := fun k hk hv => (ga.gr.block k (by omega) (fun e => hv e.symm)).trans (ba.block k hk)
  have s5 := ga.gr.size
  have hs3 : wr.heap.size ≤ w3.heap.size := k.size
  have bel5 : Below w.heap.size w w5 := h3.bel.trans ((ba.mono h3.bel.size).trans ⟨ga.gr.os, ga.gr.tape, ga.gr.output, ga.gr.size, fun q hq => ga.gr.block q (by have := h3.bel.size; omega) (fun e => by have := (h3.own.lt q e.symm).1; omega)⟩)
  refine ⟨bel5, by rw [List.length_append]; exact ga.own, ⟨fun e => ?_, fun e => ?_⟩, fun i x l hx hl => ?_⟩
  · rcases hfr b e with h1 | h1
    · exact h.nb.1 h1
    · omega
  · rcases hfr g e with h1 | h1
    · exact h.nb.2 h1
    · omega
  · have hxl := h.xl
    by_cases e : i < xs.length
    · rw [List.getElem?_append_left e] at hx
      rw [List.getElem?_append_left (by omega)] at hl
      refine (CR.keep (h3.ent i x l hx hl).lt ⟨by omega, fun k hk _ => k5 k hk.2 hk.1.2.2.2⟩).mono fun k hk => ⟨hk.1.1, hk.1.2.1, hk.1.2.2.1, fun e2 => ?_⟩
      rcases hfr k e2 with h1 | h1
      · exact hk.1.2.2.2 h1
      · have := hk.2; omega
    · rw [List.getElem?_append_right (by omega)] at hx
      rw [List.getElem?_append_right (by omega)] at hl
      have hi : i = xs.length := by have := (List.getElem?_eq_some_iff.1 hx).1; simp at this; omega
      subst hi
      rw [hxl] at hl
      simp at hx hl
      subst hx hl
      have hvn : vs.ownBlock ≠ some wr.heap.size := fun e2 => Nat.lt_irrefl _ (h.own.lt _ e2).2
      have hr5 := (k5 wr.heap.size hlt3 hvn).trans hr
      refine ⟨⟨some ⟨wr.heap.size, 0, none⟩, q.length, by rw [by8_length], by rw [by8_length]; exact Nat.le_refl _, hq9, fun _ => ⟨_, 0, rfl, lt_of_block hr5, fun j t ht => by rw [Nat.zero_add]; exact cell_blk hr5 ht⟩⟩, fun _ a' n' c' e2 => ?_⟩
      cases e2
      refine ⟨h.bel.size, by show wr.heap.size ≠ b; omega, by show wr.heap.size ≠ g; omega, fun e2 => ?_⟩
      rcases hfr wr.heap.size e2 with h1 | h1
      · exact hvn h1
      · omega
theorem RK.push' {p : Nat} (hp : p = acc.length) (h : RK w wr b g vs acc xs) (hb : w.heap.size ≤ b ∧ b < wr.heap.size ∧ g < wr.heap.size) (k : Wr.Kept (fun k => k = b) wr w3) {q : List Int} {n : Nat} (hn : n = q.length) (hq9 : q.length ≤ 9223372036854775807) (hr : w3.heap[wr.heap.size]? = some (.cells (by8 q).toArray 5 (0, 0)))
    {ao : Option Addr} {cap : Nat} {w5 : World} (ga : GA w.heap.size 46 1 (w3.alloc (.cells #[.slice (some ⟨wr.heap.size, 0, none⟩) n n] 46)) w5 vs (.slice ao (p + 1) cap) (p + 1) (xs ++ [.slice (some ⟨wr.heap.size, 0, none⟩) n n])) :
    RK w w5 b g (.slice ao (p + 1) cap) (acc ++ [q]) (xs ++ [.slice (some ⟨wr.heap.size, 0, none⟩) n n]) := by
  subst hp
  exact h.push hb k hn hq9 hr ga
theorem RK.rb (h : RK w wr b g vs acc xs) : RB (fun k => w.heap.size ≤ k) wr vs acc := by
  have hx := h.xl
  refine ⟨xs, ?_, fun h0 a n c e => ?_, hx, fun i x l hx hl => (h.ent i x l hx hl).mono fun k hk => hk.1⟩
  · have ho := h.own
    have hown : wr.ownsRow 0 46 1 vs xs.length xs := by
      rw [hx]
      obtain ⟨a1, a2⟩ := ho
      refine ⟨a1, ?_⟩
      rcases a2 with a2 | ⟨g, c, cur, q1, q2, q3⟩
      · exact .inl a2
      · exact .inr ⟨g, c, cur, q1, Nat.zero_le _, q3⟩
    obtain ⟨ao, cap, rfl⟩ := own_shape hown
    by_cases h0 : xs.length = 0
    · have hnil : xs = [] := List.eq_nil_of_length_eq_zero h0
      subst hnil
      rcases hown.2 with ⟨e, _⟩ | ⟨g, c, cur, q1, q2, q3, q4, q5, _⟩
      · exact ⟨none, 0, e, Nat.le_refl _, by omega, fun h => by simp at h⟩
      · simp only [Value.slice.injEq] at q1
        exact ⟨ao, cap, rfl, Nat.zero_le _, by rw [q1.2.2]; unfold maxLen at q5; omega, fun h => by simp at h⟩
    · rcases hown.2 with ⟨_, e⟩ | ⟨g, c, cur, q1, q2, q3, q4, q5, q6, q7⟩
      · omega
      · simp only [Value.slice.injEq] at q1
        obtain ⟨rfl, _, rfl⟩ := q1
        refine ⟨_, cap, rfl, q4, by unfold maxLen at q5; omega, fun _ => ⟨g, 0, rfl, lt_of_block q3, fun i t ht => ?_⟩⟩
        rw [Nat.zero_add]
        have := hown.cells (g := g) rfl i t ht
        rwa [Addr.add_mid, Nat.zero_add] at this
  · have := (h.own.lt a.block (by rw [e]; rfl)).1
    exact this
end
/-- Of what was read so far to all. -/
theorem recs_more {d : List Int} {f o k n : Nat} (ho : o ≠ d.length) (hd : decRun (d.drop o) = some (k, n)) (acc : List (List Int)) : (recsF d (f + 1) o).map (acc ++ ·) = (recsF d f (o + k + n)).map ((acc ++ [(d.drop (o + k)).take n]) ++ ·) := by
  rw [recsF, if_neg ho, hd]
  simp only [Option.map_map]
  congr 1
  funext r
  simp
theorem recs_end {d : List Int} {f o : Nat} (ho : o = d.length) (acc : List (List Int)) : (recsF d (f + 1) o).map (acc ++ ·) = some acc := by
  rw [recsF, if_pos ho]
  simp
theorem recs_stop {d : List Int} {f o : Nat} (ho : o ≠ d.length) (hd : decRun (d.drop o) = none) (acc : List (List Int)) : (recsF d (f + 1) o).map (acc ++ ·) = none := by
  rw [recsF, if_neg ho, hd]
  rfl
theorem decode_any (d : List Int) (ao : Option Addr) (c : Nat) (w : World) (hr : ∀ x ∈ d, 0 ≤ x ∧ x ≤ 255) (hl : d.length ≤ 1000000000) (R : Rd w (.slice ao d.length c) (by8 d)) :
    Calls Try.prog 39 #[.slice ao d.length c] w fun e w' => (∃ (Rs : List (List Int)) (x : Option Addr) (n m : Nat), recsF d (d.length + 1) 0 = some Rs ∧ e = .returned (.tuple #[.slice x n m, .bool true]) ∧ RB (fun k => w.heap.size ≤ k) w' (.slice x n m) Rs ∧ Below w.heap.size w w') ∨ (recsF d (d.length + 1) 0 = none ∧ e = .returned (.tuple #[.slice none 0 0, .bool false]) ∧ Below w.heap.size w w') := by
  have CN := hid_of (newReader_any ao d c w hr (by omega) (fun h0 => by
    obtain ⟨_, ad, e, h1⟩ := src_cells R (Nat.le_refl _) (g := 0) (by rw [by8_length]; exact h0)
    exact ⟨ad, e, h1⟩))
  have HL := hid_of hl
  clear hr R hl
  go_enter Try.func39, Try.ntmps39
  go_wp2_with (go_at_call 61; ((with_reducible refine (CN.out).mono ?_); (rintro e w1 ⟨b, g, rfl, q1, q2, q3, q4⟩)); have R1 := hid_of q1; have B1 := hid_of q2; have HB := hid_of q3; have HG := hid_of q4; clear q1 q2 q3 q4)
  go_loopw [4] (fun rv wr => ∃ (o last : Nat) (acc : List (List Int)) (xs : List Value), acc.length ≤ o ∧ Hid (Rst wr b g d o last 0) ∧ Hid (RK w wr b g rv acc xs) ∧ Hid (recsF d (d.length + 1) 0 = (recsF d (d.length + 1 - acc.length) o).map (acc ++ ·))) (fun _ wr => (match wr.cell? ⟨b, 1, none⟩ with | some (.int .i64 o) => (d.length : Int) - o | _ => 0).toNat)
  case atStart => exact ⟨0, 0, [], [], Nat.le_refl _, R1, hid_of ⟨B1.out, World.ownsRow_nil _ _ _ _, ⟨by simp [Value.ownBlock], by simp [Value.ownBlock]⟩, fun i x l hx => by simp at hx⟩, hid_of (by simp)⟩
  case round =>
    obtain ⟨o, last, acc, xs, hac, hrs, hk, hq⟩ := hrel
    obtain ⟨aR, cR, rfl⟩ := own_shape hk.out.own
    have hole := hrs.out.le
    have HC1 : Hid (wr.cell? ⟨b, 1, none⟩ = some (.int .i64 o)) := hid_of hrs.out.c1
    obtain ⟨p, hp⟩ : ∃ p, p = acc.length := ⟨_, rfl⟩
    have HP := hid_of hp
    have hp9 : p ≤ 1000000000 := by have := HL.out; omega
    rw [← hp] at hk hq hac ⊢
    clear hp
    obtain ⟨f, hf⟩ : ∃ f, d.length + 1 - p = f + 1 := ⟨d.length - p, by omega⟩
    have HF := hid_of hf
    rw [hf] at hq
    clear hf
    by_cases ho : o = d.length
    · have HQ := hid_of (hq.out.trans (recs_end ho acc))
      have hd0 : d.length - o = 0 := by omega
      have CL := hid_of (left_any b g o last d 0 wr hrs.out)
      rw [hd0] at CL
      clear hd0 ho
      go_wp2_with (go_at_call 62; ((with_reducible refine (CL.out).mono ?_); (rintro e w2 ⟨rfl, ⟨m, rfl⟩⟩)))
      go_ret2
      have h9 := (hk.out.drewN m)
      exact Or.inl ⟨acc, aR, p, cR, HQ.out, rfl, h9.rb, h9.bel⟩
    · obtain ⟨z, hz⟩ : ∃ z, z = d.length - o := ⟨_, rfl⟩
      have hzp : (z : Int) > 0 := by omega
      have dz : decide ((z : Int) > 0) = true := decide_eq_true hzp
      have dz2 : decide ((0 : Int) < (z : Int)) = true := decide_eq_true hzp
      have dz3 : decide (0 < z) = true := decide_eq_true (by omega)
      have CL := hid_of (left_any b g o last d 0 wr hrs.out)
      rw [← hz] at CL
      have HO := hid_of ho
      have HB2 := hid_of (show w.heap.size ≤ b ∧ b < wr.heap.size ∧ g < wr.heap.size from ⟨HB.out, hrs.out.blt, hrs.out.glt⟩)
      clear hz ho hzp
      cases hd : decRun (d.drop o) with
      | none =>
        have HQ := hid_of (hq.out.trans (recs_stop HO.out hd acc))
        have CB := hid_of (fun m => rbytes_bad b g o last d (wr.drewN m) (hrs.out.drewN m) hd)
        clear hd
        go_wp2_with (first
          | (go_at_call 62; ((with_reducible refine (CL.out).mono ?_); (rintro e w2 ⟨rfl, ⟨m, rfl⟩⟩)))
          | (go_at_call 63; ((with_reducible refine (CB.out m).mono ?_); (rintro e w3 ⟨rfl, q1⟩)); have R3 := hid_of q1.1; have K3 := hid_of q1.2.1; clear q1)
          | (go_at_call 64; ((with_reducible refine (err_any b g o o d 2 w3 R3.out).mono ?_); (rintro e w4 ⟨rfl, rfl⟩))))
        go_ret2
        exact Or.inr ⟨HQ.out, rfl, (((hk.out.drewN m).kept HB.out K3.out)).bel⟩
      | some x =>
        obtain ⟨k, n⟩ := x
        have hb := decRun_some hd
        have hn1 := hb.2
        rw [List.length_drop] at hn1
        have hbd := (hrs.out.dec_bound hb.1)
        have HQ := hid_of (hq.out.trans (recs_more HO.out hd acc))
        have hql : n = ((d.drop (o + k)).take n).length := by rw [List.length_take, List.length_drop]; omega
        have HQL := hid_of hql
        have HQ9 : Hid (((d.drop (o + k)).take n).length ≤ 9223372036854775807) := hid_of (by have := HL.out; omega)
        have hok : o + k + n ≤ d.length := by omega
        have hk0 : 0 < k := hbd.1
        have CB := hid_of (fun m => rbytes_ok b g o last k n d (wr.drewN m) (hrs.out.drewN m) hd)
        have hszN : ∀ m, (wr.drewN m).heap.size = wr.heap.size := fun _ => rfl
        clear hd hb hbd hql hn1
        go_wp2_with (first
          | (go_at_call 62; ((with_reducible refine (CL.out).mono ?_); (rintro e w2 ⟨rfl, ⟨m, rfl⟩⟩)))
          | (go_at_call 63; ((with_reducible refine (CB.out m).mono ?_); (rintro e w3 ⟨rfl, q1, q2, q3⟩)); rw [hszN] at *; have R3 := hid_of q1; have N3 := hid_of q2; have K3 := hid_of q3; have KK3 := hid_of ((hk.out.drewN m).kept HB.out q3); have OW3 := hid_of (show (w3.alloc (.cells #[.slice (some ⟨wr.heap.size, 0, none⟩) n n] 46)).ownsRow w.heap.size 46 1 (.slice aR p cR) p xs from by have h9 := KK3.out.own; rw [← HP.out] at h9; exact h9.alloc _); have HBS := KK3.out.bel.size; clear q1 q2 q3)
          | (go_at_call 64; ((with_reducible refine (err_any b g (o + k + n) o d 0 w3 R3.out).mono ?_); (rintro e w4 ⟨rfl, rfl⟩)))
          | (at_builtin; (refine wpList_gen 34 46 (.slice none 0 0) 24 1 rowE.und rowE.info rowE.one (by decide) rfl _ _ rfl (B := w.heap.size) (v := .slice aR p cR) rfl OW3.out (by simp; omega) (vx := .slice (some ⟨w3.heap.size, 0, none⟩) 1 1) rfl (src_one w3 (.slice (some ⟨wr.heap.size, 0, none⟩) n n) rfl) (by omega) (by omega) ?_); intro ao2 cap2 w5 ga; have GA5 := hid_of ga; clear ga))
        have hb3 := R3.out.blt
        have hg3 := R3.out.glt
        have kr : ∀ q, q < w3.heap.size → (Value.slice aR p cR).ownBlock ≠ some q → w5.heap[q]? = w3.heap[q]? := fun q hq hv => (GA5.out.gr.block q (by simp; omega) (fun e => hv e.symm)).trans ((bel_alloc w3 _).block q hq)
        have R5 := hid_of (R3.out.same (kr b hb3 KK3.out.nb.1) (kr g hg3 KK3.out.nb.2))
        have K5 := hid_of ((hk.out.drewN m).push' HP.out HB2.out K3.out HQL.out HQ9.out N3.out GA5.out)
        have HM1 : Hid ((match w5.cell? ⟨b, 1, none⟩ with | some (.int .i64 o) => (d.length : Int) - o | _ => 0).toNat = d.length - (o + k + n)) := hid_of (by rw [R5.out.c1]; simp only []; omega)
        have HM0 : Hid ((match wr.cell? ⟨b, 1, none⟩ with | some (.int .i64 o) => (d.length : Int) - o | _ => 0).toNat = d.length - o) := hid_of (by rw [HC1.out]; simp only []; omega)
        clear kr hb3 hg3
        go_roundw
        case rel => exact ⟨o + k + n, o, _, _, by rw [List.length_append, List.length_singleton, ← HP.out]; omega, R5, K5, hid_of (by
          rw [HQ.out, List.length_append, List.length_singleton, ← HP.out, show d.length + 1 - (p + 1) = f by have := HF.out; omega])⟩
        case measure => rw [HM1.out, HM0.out]; omega
end Go.Proofs.Ytofmijebinnejaa

/- The journal's streamLength. Bounds on sizes alone. -/
namespace Go.Proofs.Ytofmijebinnejaa
open Go.RowKit
open Wr (Rst newReader_any rtext_ok rtext_bad ruint_ok ruint_bad ruint_dead RTo dec decRun decRun_some strBytes)
set_option maxRecDepth 100000
set_option maxHeartbeats 3200000

/-- The length that a head names. -/
def hdF (h : List Int) : Option Nat :=
  if zerosB h = true then some 0 else match decRun h with
    | some (k, m) => if (h.drop k).take m = jnT then (match dec (h.drop (k + m)) with
      | some (n, k2) => if zerosB (h.drop (k + m + k2)) = true then some n else none
      | none => none) else none
    | none => none
theorem holds_hd (h area : List Int) : holdsF h area = (hdF h).bind fun n => if n ≤ area.length then recsF (area.take n) (n + 1) 0 else none := by
  unfold holdsF hdF zerosB
  by_cases h0 : h.all (· == 0) = true
  · rw [if_pos h0, if_pos h0]
    simp [recsF]
  · rw [if_neg h0, if_neg h0]
    cases decRun h with
    | none => rfl
    | some x =>
      obtain ⟨k, m⟩ := x
      simp only []
      by_cases h1 : (h.drop k).take m = jnT
      · rw [if_pos h1, if_pos h1]
        cases dec (h.drop (k + m)) with
        | none => rfl
        | some y =>
          obtain ⟨n, k2⟩ := y
          simp only []
          by_cases h2 : (h.drop (k + m + k2)).all (· == 0) = true
          · simp [h2]
          · simp [h2]
      · rw [if_neg h1, if_neg h1]
        rfl
theorem toList_inj {a b : ByteArray} (h : a.toList = b.toList) : a = b := by
  rw [ByteArray.toList_eq, ByteArray.toList_eq] at h
  cases a; cases b; simp only at h; rw [Array.toList_inj.1 h]
theorem jnB_list : jnB.toList = [106, 111, 117, 114, 110, 97, 108] := by rw [ByteArray.toList_eq]; rfl
theorem nums_back {q : List Int} (h : ∀ y ∈ q, 0 ≤ y ∧ y ≤ 255) : strBytes (strOfNums q) = q := by
  unfold strBytes
  rw [strOfNums_data, List.map_map]
  have : ∀ y ∈ q, ((fun b : UInt8 => (b.toNat : Int)) ∘ fun n => UInt8.ofNat n.toNat) y = id y := fun y hy => by
    have := h y hy
    simp only [Function.comp, UInt8.toNat_ofNat', id]
    omega
  rw [List.map_congr_left this, List.map_id]
theorem strs_jn {q : List Int} (h : ∀ y ∈ q, 0 ≤ y ∧ y ≤ 255) : (strOfNums q = jnB) ↔ q = jnT :=
  ⟨fun e => by rw [← nums_back h, e]; rfl, fun e => by rw [e]; rfl⟩
theorem rd_drop {w : World} {ao : Option Addr} {c off : Nat} {h : List Int} (R : Rd w (.slice ao h.length c) (by8 h)) (ho : off ≤ h.length) : Rd w (.slice (Option.map (fun x => x.add off) ao) (h.length - off) (c - off)) (by8 (h.drop off)) := by
  obtain ⟨_, _, e, h2, h3, h4⟩ := R
  simp only [Value.slice.injEq] at e
  obtain ⟨rfl, _, rfl⟩ := e
  rw [by8_length] at h2 h4
  refine ⟨_, c - off, by rw [by8_length, List.length_drop], by rw [by8_length, List.length_drop]; omega, by omega, fun h0 => ?_⟩
  rw [by8_length, List.length_drop] at h0
  obtain ⟨g, o, rfl, hg, hc⟩ := h4 (by omega)
  refine ⟨g, o + off, by simp [Addr.add_mid], hg, fun i t ht => ?_⟩
  rw [Nat.add_assoc]
  refine hc (off + i) t ?_
  rw [by8, List.getElem?_map] at ht ⊢
  rw [List.getElem?_drop] at ht
  exact ht
/-- What streamLength gives. -/
def SlP (h : List Int) (w : World) (e : Ending) (w' : World) : Prop := (∃ n : Nat, hdF h = some n ∧ n < 18446744073709551616 ∧ e = .returned (.tuple #[.int .u64 n, .bool true]) ∧ Below w.heap.size w w') ∨ (∃ n : Int, hdF h = none ∧ e = .returned (.tuple #[.int .u64 n, .bool false]) ∧ Below w.heap.size w w')
theorem streamLen_any (h : List Int) (ao : Option Addr) (c : Nat) (w : World) (hr : ∀ x ∈ h, 0 ≤ x ∧ x ≤ 255) (hl : h.length ≤ 1000000000) (R : Rd w (.slice ao h.length c) (by8 h)) : Calls Try.prog 58 #[.slice ao h.length c] w (SlP h w) := by
  have CZ := hid_of (zeros_any ao h.length c h w R)
  have HR := hid_of R
  have HG := hid_of hr
  by_cases h0 : zerosB h = true
  · have HH : Hid (hdF h = some 0) := hid_of (by rw [hdF, if_pos h0])
    rw [h0] at CZ
    clear R hr h0
    go_enter Try.func58, Try.ntmps58
    go_wp2_with (go_at_call 75; ((with_reducible refine (CZ.out).mono ?_); (rintro e w1 ⟨rfl, rfl⟩)))
    go_ret2
    exact Or.inl ⟨0, HH.out, by omega, rfl, Below.refl _ _⟩
  have h0' : zerosB h = false := by simpa using h0
  rw [h0'] at CZ
  have CN := hid_of (newReader_any ao h c w hr (by omega) (fun h0 => by
    obtain ⟨_, ad, e, h1⟩ := src_cells R (Nat.le_refl _) (g := 0) (by rw [by8_length]; exact h0)
    exact ⟨ad, e, h1⟩))
  cases hd : decRun h with
  | none =>
    have HH : Hid (hdF h = none) := hid_of (by rw [hdF, if_neg h0, hd])
    have CT := hid_of (fun b g w1 (h1 : Rst w1 b g h 0 0 0) => rtext_bad b g 0 0 h w1 h1 (by rw [List.drop_zero]; exact hd))
    clear R hr h0 h0' hd
    go_enter Try.func58, Try.ntmps58
    go_wp2_with (first
      | (go_at_call 75; ((with_reducible refine (CZ.out).mono ?_); (rintro e w1 ⟨rfl, rfl⟩)))
      | (go_at_call 61; ((with_reducible refine (CN.out).mono ?_); (rintro e w1 ⟨b, g, rfl, q1, q2, q3, q4⟩)); have R1 := hid_of q1; have B1 := hid_of q2; have HB := hid_of q3; have HG2 := hid_of q4; clear q1 q2 q3 q4)
      | (go_at_call 76; ((with_reducible refine (CT.out b g w1 R1.out).mono ?_); (rintro e w2 ⟨rfl, q1⟩)); have R2 := hid_of q1.1; have K2 := hid_of q1.2.1; clear q1)
      | (go_at_call 77; ((with_reducible refine (ruint_dead b g 0 0 h w2 R2.out).mono ?_); (rintro e w3 ⟨rfl, q1⟩)); have R3 := hid_of q1.1; have K3 := hid_of q1.2.1; clear q1)
      | (go_at_call 64; ((with_reducible refine (err_any b g 0 0 h 2 w3 R3.out).mono ?_); (rintro e w4 ⟨rfl, rfl⟩))))
    go_ret2
    exact Or.inr ⟨0, HH.out, rfl, B1.out.trans ((K2.out.below (B := w.heap.size) (by have := B1.out.size; omega) (fun k e => by rw [e]; exact HB.out)).trans (K3.out.below (B := w.heap.size) (by have := B1.out.size; have := K2.out.size; omega) (fun k e => by rw [e]; exact HB.out)))⟩
  | some x =>
    obtain ⟨k, m⟩ := x
    have hb := decRun_some hd
    obtain ⟨q, hq⟩ : ∃ q, q = (h.drop k).take m := ⟨_, rfl⟩
    have hqr : ∀ y ∈ q, 0 ≤ y ∧ y ≤ 255 := fun y hy => hr y (by rw [hq] at hy; exact List.mem_of_mem_drop (List.mem_of_mem_take hy))
    have CT := hid_of (fun b g w1 (h1 : Rst w1 b g h 0 0 0) => rtext_ok b g 0 0 k m h w1 h1 (by rw [List.drop_zero]; exact hd))
    simp only [Nat.zero_add] at CT
    rw [← hq] at CT
    cases hu : dec (h.drop (k + m)) with
    | none =>
      have HH : Hid (hdF h = none) := hid_of (by rw [hdF, if_neg h0, hd]; simp only [hu]; split <;> rfl)
      have CU := hid_of (fun b g w2 (h1 : Rst w2 b g h (k + m) 0 0) => ruint_bad b g (k + m) 0 h w2 h1 hu)
      clear R hr h0 h0' hd hu hb hq
      go_enter Try.func58, Try.ntmps58
      go_wp2_with (first
        | (go_at_call 75; ((with_reducible refine (CZ.out).mono ?_); (rintro e w1 ⟨rfl, rfl⟩)))
        | (go_at_call 61; ((with_reducible refine (CN.out).mono ?_); (rintro e w1 ⟨b, g, rfl, q1, q2, q3, q4⟩)); have R1 := hid_of q1; have B1 := hid_of q2; have HB := hid_of q3; have HG2 := hid_of q4; clear q1 q2 q3 q4)
        | (go_at_call 76; ((with_reducible refine (CT.out b g w1 R1.out).mono ?_); (rintro e w2 ⟨rfl, q1⟩)); have R2 := hid_of q1.1; have K2 := hid_of q1.2.1; clear q1)
        | (go_at_call 77; ((with_reducible refine (CU.out b g w2 R2.out).mono ?_); (rintro e w3 ⟨rfl, q1⟩)); have R3 := hid_of q1.1; have K3 := hid_of q1.2.1; clear q1)
        | (go_at_call 64; ((with_reducible refine (err_any b g (k + m) (k + m) h 2 w3 R3.out).mono ?_); (rintro e w4 ⟨rfl, rfl⟩))))
      go_ret2
      exact Or.inr ⟨0, HH.out, rfl, B1.out.trans ((K2.out.below (B := w.heap.size) (by have := B1.out.size; omega) (fun k e => by rw [e]; exact HB.out)).trans (K3.out.below (B := w.heap.size) (by have := B1.out.size; have := K2.out.size; omega) (fun k e => by rw [e]; exact HB.out)))⟩
    | some y =>
      obtain ⟨n, k2⟩ := y
      have CU := hid_of (fun b g w2 (h1 : Rst w2 b g h (k + m) 0 0) => ruint_ok b g (k + m) 0 n k2 h w2 h1 hu)
      have HN : Hid (∀ (w2 : World) (b g : Nat), Rst w2 b g h (k + m) 0 0 → n < 18446744073709551616 ∧ k + m + k2 ≤ h.length) := hid_of (fun w2 b g h1 => ⟨(h1.dec_bound hu).2.2.2, (h1.dec_bound hu).2.1⟩)
      by_cases hj : q = jnT
      · have es : strOfNums q = jnB := (strs_jn hqr).2 hj
        have HH : Hid (hdF h = if zerosB (h.drop (k + m + k2)) = true then some n else none) := hid_of (by rw [hdF, if_neg h0, hd]; simp only []; rw [if_pos (by rw [← hq]; exact hj), hu])
        have b1 := Wr.decl_bound hr hb.1
        have b2 := Wr.decl_bound (fun y hy => hr y (List.mem_of_mem_drop hy)) hu
        rw [List.length_drop] at b2
        obtain ⟨off, hoff⟩ : ∃ off, off = k + m + k2 := ⟨_, rfl⟩
        have hol : off ≤ h.length := by have := hb.2; omega
        have hol1 : (off : Int) ≤ (h.length : Int) := by omega
        have hlc := rd_cut R
        rw [by8_length] at hlc
        have hlc1 : (h.length : Int) ≤ (c : Int) := by omega
        have hlc2 : off ≤ c := by omega
        rw [← hoff] at CU HH
        obtain ⟨sq, hsq⟩ : ∃ sq, sq = strOfNums q := ⟨_, rfl⟩
        rw [← hsq] at CT es
        have e1 : (sq.toList == [106, 111, 117, 114, 110, 97, 108]) = true := beq_iff_eq.2 (by rw [es]; exact jnB_list)
        have HNX := hid_of b2.2.2.2
        clear R hr h0 h0' hd hu hb hq hj hsq es hqr b1 b2 hoff
        have HNB : Hid (n < 18446744073709551616) := hid_of HNX.out
        cases hz : zerosB (h.drop off) with
        | true =>
          rw [hz] at HH
          by_cases hoc : off = c
          · subst hoc
            have hle : h.length = off := by omega
            have RD2 := hid_of (fun (X : World) (hX : Below w.heap.size w X) => (show Rd X (.slice ao 0 0) (by8 (h.drop off)) from ⟨ao, 0, by rw [by8_length, List.length_drop, hle, Nat.sub_self], by rw [by8_length, List.length_drop]; omega, by omega, fun h0 => by rw [by8_length, List.length_drop] at h0; omega⟩))
            clear hle
            go_enter Try.func58, Try.ntmps58
            go_wp2_with (first
              | (go_at_call 75; ((with_reducible refine (CZ.out).mono ?_); (rintro e w1 ⟨rfl, rfl⟩)))
              | (go_at_call 61; ((with_reducible refine (CN.out).mono ?_); (rintro e w1 ⟨b, g, rfl, q1, q2, q3, q4⟩)); have R1 := hid_of q1; have B1 := hid_of q2; have HB := hid_of q3; have HG2 := hid_of q4; clear q1 q2 q3 q4)
              | (go_at_call 76; ((with_reducible refine (CT.out b g w1 R1.out).mono ?_); (rintro e w2 ⟨rfl, q1⟩)); have R2 := hid_of q1.1; have K2 := hid_of q1.2.1; clear q1)
              | (go_at_call 77; ((with_reducible refine (CU.out b g w2 R2.out).mono ?_); (rintro e w3 ⟨rfl, q1⟩)); have R3 := hid_of q1.1; have K3 := hid_of q1.2.1; clear q1)
              | (go_at_call 64; ((with_reducible refine (err_any b g off (k + m) h 0 w3 R3.out).mono ?_); (rintro e w4 ⟨rfl, rfl⟩)))
              | (go_at_call 78; ((with_reducible refine (off_any b g off (k + m) h 0 w3 R3.out).mono ?_); (rintro e w4 ⟨rfl, rfl⟩)); have CZ2 := hid_of (zeros_any _ _ _ (h.drop off) w3 (RD2.out w3 (B1.out.trans ((K2.out.below (B := w.heap.size) (by have := B1.out.size; omega) (fun k e => by rw [e]; exact HB.out)).trans (K3.out.below (B := w.heap.size) (by have := B1.out.size; have := K2.out.size; omega) (fun k e => by rw [e]; exact HB.out)))))); rw [hz] at CZ2)
              | (go_at_call 75; ((with_reducible refine (CZ2.out).mono ?_); (rintro e w5 ⟨rfl, rfl⟩))))
            go_ret2
            have hbel := B1.out.trans ((K2.out.below (B := w.heap.size) (by have := B1.out.size; omega) (fun k e => by rw [e]; exact HB.out)).trans (K3.out.below (B := w.heap.size) (by have := B1.out.size; have := K2.out.size; omega) (fun k e => by rw [e]; exact HB.out)))
            exact Or.inl ⟨n, HH.out, HNB.out, rfl, hbel⟩
          · have hoc2 : off < c := by omega
            have RD2 := hid_of (fun (X : World) (hX : Below w.heap.size w X) => rd_drop (HR.out.at hX) hol)
            go_enter Try.func58, Try.ntmps58
            go_wp2_with (first
              | (go_at_call 75; ((with_reducible refine (CZ.out).mono ?_); (rintro e w1 ⟨rfl, rfl⟩)))
              | (go_at_call 61; ((with_reducible refine (CN.out).mono ?_); (rintro e w1 ⟨b, g, rfl, q1, q2, q3, q4⟩)); have R1 := hid_of q1; have B1 := hid_of q2; have HB := hid_of q3; have HG2 := hid_of q4; clear q1 q2 q3 q4)
              | (go_at_call 76; ((with_reducible refine (CT.out b g w1 R1.out).mono ?_); (rintro e w2 ⟨rfl, q1⟩)); have R2 := hid_of q1.1; have K2 := hid_of q1.2.1; clear q1)
              | (go_at_call 77; ((with_reducible refine (CU.out b g w2 R2.out).mono ?_); (rintro e w3 ⟨rfl, q1⟩)); have R3 := hid_of q1.1; have K3 := hid_of q1.2.1; clear q1)
              | (go_at_call 64; ((with_reducible refine (err_any b g off (k + m) h 0 w3 R3.out).mono ?_); (rintro e w4 ⟨rfl, rfl⟩)))
              | (go_at_call 78; ((with_reducible refine (off_any b g off (k + m) h 0 w3 R3.out).mono ?_); (rintro e w4 ⟨rfl, rfl⟩)); have CZ2 := hid_of (zeros_any _ _ _ (h.drop off) w3 (RD2.out w3 (B1.out.trans ((K2.out.below (B := w.heap.size) (by have := B1.out.size; omega) (fun k e => by rw [e]; exact HB.out)).trans (K3.out.below (B := w.heap.size) (by have := B1.out.size; have := K2.out.size; omega) (fun k e => by rw [e]; exact HB.out)))))); rw [hz] at CZ2)
              | (go_at_call 75; ((with_reducible refine (CZ2.out).mono ?_); (rintro e w5 ⟨rfl, rfl⟩))))
            go_ret2
            have hbel := B1.out.trans ((K2.out.below (B := w.heap.size) (by have := B1.out.size; omega) (fun k e => by rw [e]; exact HB.out)).trans (K3.out.below (B := w.heap.size) (by have := B1.out.size; have := K2.out.size; omega) (fun k e => by rw [e]; exact HB.out)))
            exact Or.inl ⟨n, HH.out, HNB.out, rfl, hbel⟩
        | false =>
          rw [hz] at HH
          have hoc2 : off < c := by
            by_cases e : h.length = off
            · rw [← e, List.drop_length] at hz; cases hz
            · omega
          have RD2 := hid_of (fun (X : World) (hX : Below w.heap.size w X) => rd_drop (HR.out.at hX) hol)
          go_enter Try.func58, Try.ntmps58
          go_wp2_with (first
            | (go_at_call 75; ((with_reducible refine (CZ.out).mono ?_); (rintro e w1 ⟨rfl, rfl⟩)))
            | (go_at_call 61; ((with_reducible refine (CN.out).mono ?_); (rintro e w1 ⟨b, g, rfl, q1, q2, q3, q4⟩)); have R1 := hid_of q1; have B1 := hid_of q2; have HB := hid_of q3; have HG2 := hid_of q4; clear q1 q2 q3 q4)
            | (go_at_call 76; ((with_reducible refine (CT.out b g w1 R1.out).mono ?_); (rintro e w2 ⟨rfl, q1⟩)); have R2 := hid_of q1.1; have K2 := hid_of q1.2.1; clear q1)
            | (go_at_call 77; ((with_reducible refine (CU.out b g w2 R2.out).mono ?_); (rintro e w3 ⟨rfl, q1⟩)); have R3 := hid_of q1.1; have K3 := hid_of q1.2.1; clear q1)
            | (go_at_call 64; ((with_reducible refine (err_any b g off (k + m) h 0 w3 R3.out).mono ?_); (rintro e w4 ⟨rfl, rfl⟩)))
            | (go_at_call 78; ((with_reducible refine (off_any b g off (k + m) h 0 w3 R3.out).mono ?_); (rintro e w4 ⟨rfl, rfl⟩)); have CZ2 := hid_of (zeros_any _ _ _ (h.drop off) w3 (RD2.out w3 (B1.out.trans ((K2.out.below (B := w.heap.size) (by have := B1.out.size; omega) (fun k e => by rw [e]; exact HB.out)).trans (K3.out.below (B := w.heap.size) (by have := B1.out.size; have := K2.out.size; omega) (fun k e => by rw [e]; exact HB.out)))))); rw [hz] at CZ2)
            | (go_at_call 75; ((with_reducible refine (CZ2.out).mono ?_); (rintro e w5 ⟨rfl, rfl⟩))))
          go_ret2
          have hbel := B1.out.trans ((K2.out.below (B := w.heap.size) (by have := B1.out.size; omega) (fun k e => by rw [e]; exact HB.out)).trans (K3.out.below (B := w.heap.size) (by have := B1.out.size; have := K2.out.size; omega) (fun k e => by rw [e]; exact HB.out)))
          exact Or.inr ⟨n, HH.out, rfl, hbel⟩
      · have HH : Hid (hdF h = none) := hid_of (by rw [hdF, if_neg h0, hd]; simp only []; rw [if_neg (by rw [← hq]; exact hj)])
        have es : strOfNums q ≠ jnB := fun e => hj ((strs_jn hqr).1 e)
        obtain ⟨sq, hsq⟩ : ∃ sq, sq = strOfNums q := ⟨_, rfl⟩
        rw [← hsq] at CT es
        have e1 : (sq.toList == [106, 111, 117, 114, 110, 97, 108]) = false := beq_eq_false_iff_ne.2 (fun e => es (toList_inj (e.trans jnB_list.symm)))
        clear R hr h0 h0' hd hu hb hq hj hsq es hqr
        go_enter Try.func58, Try.ntmps58
        go_wp2_with (first
          | (go_at_call 75; ((with_reducible refine (CZ.out).mono ?_); (rintro e w1 ⟨rfl, rfl⟩)))
          | (go_at_call 61; ((with_reducible refine (CN.out).mono ?_); (rintro e w1 ⟨b, g, rfl, q1, q2, q3, q4⟩)); have R1 := hid_of q1; have B1 := hid_of q2; have HB := hid_of q3; have HG2 := hid_of q4; clear q1 q2 q3 q4)
          | (go_at_call 76; ((with_reducible refine (CT.out b g w1 R1.out).mono ?_); (rintro e w2 ⟨rfl, q1⟩)); have R2 := hid_of q1.1; have K2 := hid_of q1.2.1; clear q1)
          | (go_at_call 77; ((with_reducible refine (CU.out b g w2 R2.out).mono ?_); (rintro e w3 ⟨rfl, q1⟩)); have R3 := hid_of q1.1; have K3 := hid_of q1.2.1; clear q1)
          | (go_at_call 64; ((with_reducible refine (err_any b g (k + m + k2) (k + m) h 0 w3 R3.out).mono ?_); (rintro e w4 ⟨rfl, rfl⟩))))
        go_ret2
        exact Or.inr ⟨n, HH.out, rfl, B1.out.trans ((K2.out.below (B := w.heap.size) (by have := B1.out.size; omega) (fun k e => by rw [e]; exact HB.out)).trans (K3.out.below (B := w.heap.size) (by have := B1.out.size; have := K2.out.size; omega) (fun k e => by rw [e]; exact HB.out)))⟩
end Go.Proofs.Ytofmijebinnejaa

/- What a sector may hold behind a crash, as mathematics. -/
namespace Go.Proofs.Ytofmijebinnejaa

/-- The writes to a sector, in order. -/
def wrs (c : List (Nat × List Int)) (s : Nat) : List (List Int) := (c.filter fun p => p.1 == s).map (·.2)
def mayF (M : DM) (s : Nat) : List (List Int) := M.secs.getD s [] :: wrs M.cache s
theorem mayF_pos (M : DM) (s : Nat) : 0 < (mayF M s).length := by simp [mayF]
theorem mayF_len (M : DM) (s : Nat) : (mayF M s).length ≤ M.cache.length + 1 := by
  simp only [mayF, wrs, List.length_cons, List.length_map]
  have := List.length_filter_le (fun p : Nat × List Int => p.1 == s) M.cache
  omega
theorem may_same {M N : DM} (h1 : N.secs = M.secs) (h2 : N.cache = M.cache) (s : Nat) : mayF N s = mayF M s := by rw [mayF, mayF, h1, h2]
theorem may_new (n z s : Nat) (h : s < n) : mayF (newF n z) s = [List.replicate z 0] := by
  simp [mayF, newF, wrs, List.getD_eq_getElem?_getD, h]
theorem may_write {M : DM} {x : Int} {l : List Int} (h : (writeF M x l).1 = 0) : (0 ≤ x ∧ x < M.secs.length) ∧ ∀ s, mayF (writeF M x l).2 s = if s = x.toNat then mayF M s ++ [l] else mayF M s := by
  unfold writeF at h ⊢
  split
  · rename_i hn; rw [if_pos hn] at h; simp at h
  · rename_i hn
    rw [if_neg hn] at h
    split
    · rename_i hs; rw [if_pos hs] at h; simp at h
    · have hf : M.fits x = true := by simpa using (not_or.1 hn).1
      simp only [DM.fits, decide_eq_true_eq] at hf
      refine ⟨hf, fun s => ?_⟩
      show (stepF M).2.secs.getD s [] :: wrs (M.cache ++ [(x.toNat, l)]) s = _
      rw [(stepF_same M).2.1]
      simp only [wrs, List.filter_append, List.map_append, mayF]
      by_cases e : s = x.toNat
      · subst e; simp
      · have e2 : (x.toNat == s) = false := beq_eq_false_iff_ne.2 fun h => e h.symm
        simp [e, e2]
theorem may_write_ne {M : DM} {x : Int} {l : List Int} (h : (writeF M x l).1 ≠ 0) (s : Nat) : mayF (writeF M x l).2 s = mayF M s := by
  unfold writeF at h ⊢
  split
  · rfl
  · rename_i hn
    rw [if_neg hn] at h
    split
    · exact may_same (stepF_same M).2.1 (stepF_same M).2.2 s
    · rename_i hs; rw [if_neg hs] at h; simp at h
theorem putF_last (s : Nat) : ∀ (c : List (Nat × List Int)) (S : List (List Int)), s < S.length → (putF S c).getD s [] = (S.getD s [] :: wrs c s).getLast (by simp)
  | [], S, _ => by simp [putF, wrs]
  | p :: r, S, h => by
    show (putF (S.set p.1 p.2) r).getD s [] = _
    rw [putF_last s r (S.set p.1 p.2) (by rwa [List.length_set])]
    by_cases e : p.1 = s
    · have e2 : wrs (p :: r) s = p.2 :: wrs r s := by simp [wrs, e]
      have e3 : (S.set p.1 p.2).getD s [] = p.2 := by rw [List.getD_eq_getElem?_getD, e, List.getElem?_set_self h]; rfl
      simp only [e2, e3]
      rw [List.getLast_cons_cons]
    · have e2 : wrs (p :: r) s = wrs r s := by simp [wrs, e]
      have e3 : (S.set p.1 p.2).getD s [] = S.getD s [] := by rw [List.getD_eq_getElem?_getD, List.getElem?_set_ne e, List.getD_eq_getElem?_getD]
      simp only [e2, e3]
theorem may_sync {M : DM} (h : (syncF M).1 = 0) {s : Nat} (hs : s < M.secs.length) : mayF (syncF M).2 s = [(mayF M s).getLast (by simp [mayF])] := by
  unfold syncF at h ⊢
  split
  · rename_i hn; rw [if_pos hn] at h; simp at h
  · show (putF M.secs M.cache).getD s [] :: wrs [] s = _
    rw [putF_last s _ _ hs]
    rfl
theorem may_sync_ne {M : DM} (h : (syncF M).1 ≠ 0) (s : Nat) : mayF (syncF M).2 s = mayF M s := by
  unfold syncF at h ⊢
  split
  · exact may_same (stepF_same M).2.1 (stepF_same M).2.2 s
  · rename_i hn; rw [if_neg hn] at h; simp at h
theorem may_fail (M : DM) (n : Int) (s : Nat) : mayF (failF M n) s = mayF M s := by
  unfold failF
  split <;> rfl
theorem keepF_may (S : List (List Int)) (c : List (Nat × List Int)) (kp : List Bool) (s : Nat) (hs : s < S.length) : ∀ k, (keepF S c kp k).getD s [] ∈ S.getD s [] :: wrs c s
  | 0 => by simp [keepF]
  | k + 1 => by
    rw [keepF]
    split
    · rename_i p hp _
      by_cases e : p.1 = s
      · rw [show ((keepF S c kp k).set p.1 p.2).getD s [] = p.2 by rw [List.getD_eq_getElem?_getD, e, List.getElem?_set_self (by rwa [keepF_len])]; rfl]
        refine List.mem_cons_of_mem _ ?_
        simp only [wrs, List.mem_map, List.mem_filter]
        exact ⟨p, ⟨List.mem_of_getElem? hp, by simp [e]⟩, rfl⟩
      · rw [show ((keepF S c kp k).set p.1 p.2).getD s [] = (keepF S c kp k).getD s [] by rw [List.getD_eq_getElem?_getD, List.getElem?_set_ne e, ← List.getD_eq_getElem?_getD]]
        exact keepF_may S c kp s hs k
    · exact keepF_may S c kp s hs k
theorem may_crash (M : DM) (kp : List Bool) {s : Nat} (hs : s < M.secs.length) : ∃ b, readF (crashF M kp) s = (b, 0) ∧ b ∈ mayF M s := by
  have hlen : (crashF M kp).secs.length = M.secs.length := by show (keepF _ _ _ _).length = _; rw [keepF_len]
  have hf : (crashF M kp).fits s = true := by simp only [DM.fits, decide_eq_true_eq, hlen]; omega
  refine ⟨_, ?_, keepF_may M.secs M.cache kp s hs (min M.cache.length kp.length)⟩
  rw [readF, if_neg (by rw [hf]; simp), if_neg (by simp [crashF])]
  rfl

end Go.Proofs.Ytofmijebinnejaa

/- What a region of a disk holds, and may hold behind a crash, as mathematics. -/
namespace Go.Proofs.Ytofmijebinnejaa
open Wr

/-- The sectors of an area, by a function of their number; the list that a region holds durably. -/
def areaF (c : Nat → List Int) : Nat → List Int
  | 0 => []
  | k + 1 => areaF c k ++ c k
def holdsD (M : DM) (first count : Nat) : Option (List (List Int)) := holdsF (M.secs.getD first []) (areaF (fun i => M.secs.getD (first + 1 + i) []) (count - 1))
/-- Whatever a crash keeps, the region holds R or R2. -/
def Amb (M : DM) (first count : Nat) (R R2 : List (List Int)) : Prop := ∀ kp, holdsD (crashF M kp) first count = some R ∨ holdsD (crashF M kp) first count = some R2
theorem areaF_congr {c d : Nat → List Int} : ∀ k, (∀ i, i < k → c i = d i) → areaF c k = areaF d k
  | 0, _ => rfl
  | k + 1, h => by rw [areaF, areaF, areaF_congr k fun i hi => h i (by omega), h k (by omega)]
theorem areaF_len {c : Nat → List Int} {z : Nat} : ∀ k, (∀ i, i < k → (c i).length = z) → (areaF c k).length = k * z
  | 0, _ => by simp [areaF]
  | k + 1, h => by rw [areaF, List.length_append, areaF_len k fun i hi => h i (by omega), h k (by omega), Nat.succ_mul]
/-- An area whose sectors are those of a stream, as far as it goes, begins with the stream. -/
theorem areaF_take {c : Nat → List Int} {z : Nat} {L : List Int} : ∀ k, (∀ i, i < k → (c i).length = z ∧ (c i).take (L.length - i * z) = (L.drop (i * z)).take z) → (areaF c k).take L.length = L.take (k * z)
  | 0, _ => by simp [areaF]
  | k + 1, h => by
    have h1 := areaF_len (c := c) (z := z) k fun i hi => (h i (by omega)).1
    have h2 := areaF_take (c := c) (z := z) (L := L) k fun i hi => h i (by omega)
    rw [areaF, List.take_append, h1, h2, (h k (by omega)).2, Nat.succ_mul, List.take_add]
theorem crash_get (M : DM) (kp : List Bool) {s : Nat} (hs : s < M.secs.length) : (crashF M kp).secs.getD s [] ∈ mayF M s := keepF_may M.secs M.cache kp s hs _
/-- The crash: what every choice of what the sectors may hold gives. -/
theorem amb_of {M : DM} {first count : Nat} {R R2 : List (List Int)} (hf : first + count ≤ M.secs.length) (hc : 0 < count) (h : ∀ head ∈ mayF M first, ∀ c : Nat → List Int, (∀ i, i < count - 1 → c i ∈ mayF M (first + 1 + i)) → holdsF head (areaF c (count - 1)) = some R ∨ holdsF head (areaF c (count - 1)) = some R2) : Amb M first count R R2 := fun kp =>
  h _ (crash_get M kp (by omega)) _ fun i hi => crash_get M kp (by omega)
/-- A clean cache: nothing but what the region holds. -/
theorem amb_clean {M : DM} {first count : Nat} {R : List (List Int)} (hc : M.cache = []) (h : holdsD M first count = some R) : Amb M first count R R := fun kp => by
  have e : (crashF M kp).secs = M.secs := by
    show keepF M.secs M.cache kp _ = _
    rw [hc]
    rfl
  refine Or.inl ?_
  rw [holdsD, e]
  exact h
/-- A sector that is a longer stream's is the shorter one's, as far as that goes. -/
theorem agree_pre {c L T : List Int} {i z : Nat} (h : c.take ((L ++ T).length - i * z) = ((L ++ T).drop (i * z)).take z) : c.take (L.length - i * z) = (L.drop (i * z)).take z := by
  have e1 : c.take (L.length - i * z) = (c.take ((L ++ T).length - i * z)).take (L.length - i * z) := by
    rw [List.take_take, Nat.min_eq_left (by simp only [List.length_append]; omega)]
  rw [e1, h, List.take_take]
  by_cases hi : i * z ≤ L.length
  · rw [List.drop_append_of_le_length hi, List.take_append_of_le_length (by rw [List.length_drop]; omega)]
    rcases Nat.le_total (L.length - i * z) z with h1 | h1
    · rw [Nat.min_eq_left h1, List.take_of_length_le (by rw [List.length_drop]; omega), List.take_of_length_le (by rw [List.length_drop]; omega)]
    · rw [Nat.min_eq_right h1]
  · rw [show L.length - i * z = 0 by omega, Nat.zero_min, List.take_zero, List.drop_eq_nil_of_le (by omega), List.take_nil]
/-- The head in place and every sector of the area the stream's as far as it goes: the region holds R. -/
theorem holds_area {sz k : Nat} {R : List (List Int)} {c : Nat → List Int} {z : Nat} (hx : ∀ x ∈ R, x.length < 18446744073709551616) (hn : (streamF R).length < 18446744073709551616) (hk : (streamF R).length ≤ k * z) (h : ∀ i, i < k → (c i).length = z ∧ (c i).take ((streamF R).length - i * z) = ((streamF R).drop (i * z)).take z) : holdsF (headF sz (streamF R).length) (areaF c k) = some R := by
  have h1 := areaF_take (L := streamF R) k h
  rw [List.take_of_length_le hk] at h1
  have h2 := hold_stream (sz := sz) (R := R) (rest := (areaF c k).drop (streamF R).length) hx hn
  rw [show areaF c k = streamF R ++ (areaF c k).drop (streamF R).length from by
    conv => lhs; rw [← List.take_append_drop (streamF R).length (areaF c k), h1]]
  exact h2
end Go.Proofs.Ytofmijebinnejaa

/- The program's journal in memory; its small functions. Bounds on sizes alone. -/
namespace Go.Proofs.Ytofmijebinnejaa
open Go.RowKit
set_option maxRecDepth 100000
set_option maxHeartbeats 3200000

/-- The program's journal in block jb, on the disk in block b; all of both in S; the disk's blocks are SD. -/
structure JK (S SD : Nat → Prop) (w : World) (jb b : Nat) (M : DM) (fs ct : Nat) (d : List Int) (wk : Bool) (vs : Value) : Prop where
  sj : S jb
  sd : ∀ k, SD k → S k
  nj : ¬ SD jb
  box : w.heap[jb]? = some (.cells [.pointer (some ⟨b, 0, none⟩), .int .i64 fs, .int .i64 ct, vs, .bool wk].toArray 71 (0, 0))
  dk : IG.DS SD w b M
  str : w.ownsRow 0 5 1 vs d.length (by8 d)
  si : ∀ k, vs.ownBlock = some k → S k ∧ k ≠ jb ∧ ¬ SD k
  reg : fs + ct ≤ M.secs.length ∧ 2 ≤ ct
  len : d.length ≤ (ct - 1) * M.sz
  sz : 16 ≤ M.sz
section
variable {S T SD : Nat → Prop} {w w' : World} {jb b : Nat} {M : DM} {fs ct : Nat} {d : List Int} {wk : Bool} {vs : Value}
theorem JK.ok (h : JK S SD w jb b M fs ct d wk vs) : M.Ok := IG.ok h.dk
theorem JK.jlt (h : JK S SD w jb b M fs ct d wk vs) : jb < w.heap.size := lt_of_block h.box
theorem JK.keep (h : JK S SD w jb b M fs ct d wk vs) (k : Keeps S w w') : JK S SD w' jb b M fs ct d wk vs :=
  ⟨h.sj, h.sd, h.nj, (k.2 jb h.sj h.jlt).trans h.box, IG.keep h.dk ⟨k.1, fun q hq hl => k.2 q (h.sd q hq) hl⟩, own_same h.str fun q hq => k.2 q (h.si q hq).1 (h.str.lt q hq).2, h.si, h.reg, h.len, h.sz⟩
theorem JK.mono (h : JK S SD w jb b M fs ct d wk vs) (hs : ∀ k, S k → T k) : JK T SD w jb b M fs ct d wk vs :=
  ⟨hs jb h.sj, fun k hk => hs k (h.sd k hk), h.nj, h.box, h.dk, h.str, fun k hk => ⟨hs k (h.si k hk).1, (h.si k hk).2⟩, h.reg, h.len, h.sz⟩
theorem JK.cells (h : JK S SD w jb b M fs ct d wk vs) : w.cell? ⟨jb, 0, none⟩ = some (.pointer (some ⟨b, 0, none⟩)) ∧ w.cell? ⟨jb, 1, none⟩ = some (.int .i64 fs) ∧ w.cell? ⟨jb, 2, none⟩ = some (.int .i64 ct) ∧ w.cell? ⟨jb, 3, none⟩ = some vs ∧ w.cell? ⟨jb, 4, none⟩ = some (.bool wk) :=
  ⟨cell_blk h.box rfl, cell_blk h.box rfl, cell_blk h.box rfl, cell_blk h.box rfl, cell_blk h.box rfl⟩
theorem JK.free (h : JK S SD w jb b M fs ct d wk vs) (j : Nat) : w.frozen? ⟨jb, j, none⟩ = false := fr_blk h.box j
/-- The flag has changed. -/
theorem JK.flag (h : JK S SD w jb b M fs ct d wk vs) (wk2 : Bool) : JK S SD (w.setCell ⟨jb, 4, none⟩ (.bool wk2)) jb b M fs ct d wk2 vs :=
  have ko : ∀ k, k ≠ jb → (w.setCell ⟨jb, 4, none⟩ (.bool wk2)).heap[k]? = w.heap[k]? := fun k hk => set_blk (Ne.symm hk)
  ⟨h.sj, h.sd, h.nj, Go.Proofs.Ytofmijebinnejaa.blk_setCell (k := 4) h.box, IG.keep h.dk (keeps_set w jb 4 _ h.nj), own_same h.str fun k hk => ko k (h.si k hk).2.1, h.si, h.reg, h.len, h.sz⟩
/-- The stream's bytes, to be read. -/
theorem JK.rd (h : JK S SD w jb b M fs ct d wk vs) : Rd w vs (by8 d) := by
  have hs := h.len
  have h1 := h.ok.secs
  have h2 := h.ok.sz
  have h3 := h.reg
  have hm : (ct - 1) * M.sz ≤ 65536 * 4096 := Nat.mul_le_mul (by omega) h2
  exact (show Ow 5 0 w w vs (by8 d) from ⟨Nat.zero_le _, Below.refl _ _, by rw [by8_length]; exact h.str⟩).rd (by rw [by8_length]; omega)
theorem JK.bounds (h : JK S SD w jb b M fs ct d wk vs) : (ct - 1) * M.sz ≤ 268435456 ∧ d.length ≤ 268435456 ∧ ct ≤ 65536 ∧ fs ≤ 65536 ∧ M.sz ≤ 4096 := by
  have hs := h.len
  have h1 := h.ok.secs
  have h2 := h.ok.sz
  have h3 := h.reg
  have hm : (ct - 1) * M.sz ≤ 65536 * 4096 := Nat.mul_le_mul (by omega) h2
  omega
end
section
variable (S SD : Nat → Prop) (w : World) (jb b : Nat) (M : DM) (fs ct : Nat) (d : List Int) (wk : Bool) (vs : Value)
theorem sizeQ_any {SD : Nat → Prop} {w : World} {b : Nat} {M : DM} (h : IG.DS SD w b M) : Calls Try.prog 65 #[.pointer (some ⟨b, 0, none⟩)] w fun e w' => e = .returned (.int .i64 M.sz) ∧ ∃ m, w' = w.drewN m := by
  have h' : Dg.DS SD w b M := h
  obtain ⟨_, _, _, _, _, _, _, _, _, hd⟩ := h'
  obtain ⟨c0, c1, c2, c3, c4, c5, c6, c7⟩ := hd.cells
  clear h hd
  go_enter Try.func65, Try.ntmps65
  go_wp2
  go_ret
  exact ⟨rfl, 0, rfl⟩
theorem room_any (h : JK S SD w jb b M fs ct d wk vs) : Calls Try.prog 40 #[.pointer (some ⟨jb, 0, none⟩)] w fun e w' => e = .returned (.int .i64 ((ct - 1) * M.sz : Nat)) ∧ ∃ m, w' = w.drewN m := by
  have CZ := hid_of (fun (m : Nat) => sizeQ_any (IG.keep h.dk (w' := w.drewN m) ⟨Nat.le_refl _, fun _ _ _ => rfl⟩))
  obtain ⟨c0, c1, c2, c3, c4⟩ := h.cells
  have hb := h.bounds
  have h2 := h.reg.2
  have d1 : IntKind.i64.wrap ((ct : Int) - 1) = ((ct - 1 : Nat) : Int) := by rw [show (ct : Int) - 1 = ((ct - 1 : Nat) : Int) by omega]; exact IntWalk.i64_in _ (by omega)
  have d2 : IntKind.i64.wrap (((ct - 1 : Nat) : Int) * (M.sz : Int)) = (((ct - 1) * M.sz : Nat) : Int) := by rw [← Int.natCast_mul]; exact IntWalk.i64_in _ (by omega)
  obtain ⟨p, hp⟩ : ∃ p, p = ct - 1 := ⟨_, rfl⟩
  rw [← hp] at d1 d2 ⊢
  obtain ⟨r, hr⟩ : ∃ r, r = p * M.sz := ⟨_, rfl⟩
  rw [← hr] at d2 ⊢
  clear h hb h2 hp hr
  go_enter Try.func40, Try.ntmps40
  go_wp2
  go_quiet (first | (go_at_call 65; exact Calls.quiet_of (CZ.out _)))
  go_wp2
  go_ret
  exact ⟨rfl, nq, rfl⟩
theorem needed_any (l : Nat) (hl : l ≤ 268435456) (h : JK S SD w jb b M fs ct d wk vs) : Calls Try.prog 72 #[.pointer (some ⟨jb, 0, none⟩), .int .i64 l] w fun e w' => e = .returned (.int .i64 ((l + M.sz - 1) / M.sz : Nat)) ∧ ∃ m, w' = w.drewN m := by
  have CZ := hid_of (sizeQ_any h.dk)
  obtain ⟨c0, c1, c2, c3, c4⟩ := h.cells
  have hb := h.bounds
  have hz := h.sz
  have d1 : IntKind.i64.wrap ((l : Int) + (M.sz : Int)) = ((l + M.sz : Nat) : Int) := by rw [← Int.natCast_add]; exact IntWalk.i64_in _ (by omega)
  have d2 : IntKind.i64.wrap (((l + M.sz : Nat) : Int) - 1) = ((l + M.sz - 1 : Nat) : Int) := by rw [show ((l + M.sz : Nat) : Int) - 1 = ((l + M.sz - 1 : Nat) : Int) by omega]; exact IntWalk.i64_in _ (by omega)
  have hd : (l + M.sz - 1) / M.sz ≤ l + M.sz - 1 := Nat.div_le_self _ _
  have d3 : wrap64 (((l + M.sz - 1 : Nat) : Int) / (M.sz : Int)) = (((l + M.sz - 1) / M.sz : Nat) : Int) := by
    rw [← Int.natCast_ediv]
    obtain ⟨r, hr⟩ : ∃ r, r = (l + M.sz - 1) / M.sz := ⟨_, rfl⟩
    rw [← hr] at hd ⊢
    unfold wrap64
    omega
  obtain ⟨z, hz2⟩ : ∃ z, z = M.sz := ⟨_, rfl⟩
  have e0 : ((z : Int) == 0) = false := beq_eq_false_iff_ne.2 (by omega)
  have e1 : ((z : Int) == -1) = false := beq_eq_false_iff_ne.2 (by omega)
  have e2 : ¬ z = 0 := by omega
  rw [← hz2] at d1 d2 d3 CZ ⊢
  obtain ⟨r, hr⟩ : ∃ r, r = (l + z - 1) / z := ⟨_, rfl⟩
  obtain ⟨p, hp⟩ : ∃ p, p = l + z - 1 := ⟨_, rfl⟩
  obtain ⟨q, hq⟩ : ∃ q, q = l + z := ⟨_, rfl⟩
  rw [← hr] at d3 ⊢
  rw [← hp] at d2 d3
  rw [← hq] at d1 d2
  clear h hb hz hd hz2 hr hp hq
  go_enter Try.func72, Try.ntmps72
  go_wp2_with (go_at_call 65; ((with_reducible refine (CZ.out).mono ?_); (rintro e w1 ⟨rfl, ⟨m, rfl⟩⟩)))
  go_ret
  exact ⟨congrArg (fun x => Ending.returned (Value.int .i64 x)) d3, m, rfl⟩
theorem sector_any (i : Nat) (hi : i ≤ 100000) (h : JK S SD w jb b M fs ct d wk vs) : Calls Try.prog 73 #[.pointer (some ⟨jb, 0, none⟩), .int .i64 i] w fun e w' => e = .returned (.int .i64 (fs + 1 + i : Nat)) ∧ w = w' := by
  obtain ⟨c0, c1, c2, c3, c4⟩ := h.cells
  have hb := h.bounds
  clear h
  go_enter Try.func73, Try.ntmps73
  go_wp2
  go_ret
  exact ⟨by rw [show ((fs + 1 + i : Nat) : Int) = (fs : Int) + 1 + (i : Int) by omega] <;> rfl, rfl⟩
theorem check_any (x : Bool) (h : JK S SD w jb b M fs ct d wk vs) : Calls Try.prog 70 #[.pointer (some ⟨jb, 0, none⟩), .bool x] w fun e w' => e = .returned (.bool x) ∧ JK S SD w' jb b M fs ct d (wk && x) vs ∧ Kept (fun k => k = jb) w w' := by
  obtain ⟨c0, c1, c2, c3, c4⟩ := h.cells
  have f4 := h.free 4
  cases x with
  | true =>
    have HK : Hid (JK S SD w jb b M fs ct d (wk && true) vs) := hid_of (by rw [Bool.and_true]; exact h)
    clear h
    go_enter Try.func70, Try.ntmps70
    go_wp2
    go_ret
    exact ⟨rfl, HK.out, Kept.refl _ _⟩
  | false =>
    have HK : Hid (JK S SD (w.setCell ⟨jb, 4, none⟩ (.bool false)) jb b M fs ct d (wk && false) vs) := hid_of (by rw [Bool.and_false]; exact h.flag false)
    clear h
    go_enter Try.func70, Try.ntmps70
    go_wp2
    go_ret
    exact ⟨rfl, HK.out, Kept.set _ _ _ _⟩
theorem jdown_any (h : JK S SD w jb b M fs ct d wk vs) : Calls Try.prog 22 #[.pointer (some ⟨jb, 0, none⟩)] w fun e w' => e = .returned (.bool (!wk)) ∧ w = w' := by
  obtain ⟨c0, c1, c2, c3, c4⟩ := h.cells
  clear h
  go_enter Try.func22, Try.ntmps22
  go_wp2
  go_ret
  exact ⟨rfl, rfl⟩
theorem begin_any (h : JK S SD w jb b M fs ct d wk vs) : Calls Try.prog 52 #[.pointer (some ⟨jb, 0, none⟩)] w fun e w' => e = .returned (.bool (wk && !M.off)) ∧ JK S SD w' jb b M fs ct d (wk && !M.off) vs ∧ Kept (fun k => k = jb) w w' := by
  obtain ⟨c0, c1, c2, c3, c4⟩ := h.cells
  cases wk with
  | false =>
    have HK := hid_of h
    clear h
    go_enter Try.func52, Try.ntmps52
    go_wp2
    go_ret
    exact ⟨rfl, HK.out, Kept.refl _ _⟩
  | true =>
    have CD := hid_of (IG.downQ h.dk)
    have CK := hid_of (fun m => check_any S SD (w.drewN m) jb b M fs ct d true vs (!M.off) (h.keep ⟨Nat.le_refl _, fun _ _ _ => rfl⟩))
    have hkd : ∀ m w2, Kept (fun k => k = jb) (w.drewN m) w2 → Kept (fun k => k = jb) w w2 := fun m w2 q => ⟨q.os, q.tape, q.output, q.size, q.block⟩
    have HKD := hid_of hkd
    clear h hkd
    go_enter Try.func52, Try.ntmps52
    go_wp2_with (first
      | (go_at_call 31; ((with_reducible refine (CD.out).mono ?_); (rintro e w1 ⟨rfl, ⟨m, rfl⟩⟩)))
      | (go_at_call 70; ((with_reducible refine (CK.out m).mono ?_); (rintro e w2 ⟨rfl, q1, q2⟩)); have H2 := hid_of q1; have K2 := hid_of q2; clear q1 q2))
    go_ret
    exact ⟨rfl, H2.out, HKD.out m w2 K2.out⟩
end
end Go.Proofs.Ytofmijebinnejaa

/- The journal's Records, Left, fits. Bounds on sizes alone. -/
namespace Go.Proofs.Ytofmijebinnejaa
open Go.RowKit
open Wr (enc enc_length_10)
set_option maxRecDepth 100000
set_option maxHeartbeats 3200000

theorem best_step {left k : Nat} (h : ¬ k + (enc k).length ≤ left) : bestL left (k + 1) = bestL left k := by
  rw [bestL, if_neg h]
section
variable (S SD : Nat → Prop) (w : World) (jb b : Nat) (M : DM) (fs ct : Nat) (d : List Int) (wk : Bool) (vs : Value)
theorem records_any (R : List (List Int)) (hR : recsF d (d.length + 1) 0 = some R) (hr : ∀ x ∈ d, 0 ≤ x ∧ x ≤ 255) (h : JK S SD w jb b M fs ct d wk vs) : Calls Try.prog 19 #[.pointer (some ⟨jb, 0, none⟩)] w fun e w' => ∃ x n m, e = .returned (.slice x n m) ∧ RB (fun k => w.heap.size ≤ k) w' (.slice x n m) R ∧ Below w.heap.size w w' := by
  obtain ⟨ao, cap, rfl⟩ := own_shape h.str
  have CD := hid_of (decode_any d ao cap w hr (by have := h.bounds; omega) h.rd)
  obtain ⟨c0, c1, c2, c3, c4⟩ := h.cells
  have HR := hid_of hR
  obtain ⟨n, hn⟩ : ∃ n, n = d.length := ⟨_, rfl⟩
  rw [← hn] at c3
  have CD2 : Hid (Calls Try.prog 39 #[.slice ao n cap] w fun e w' => ∃ x n m, e = .returned (.tuple #[.slice x n m, .bool true]) ∧ RB (fun k => w.heap.size ≤ k) w' (.slice x n m) R ∧ Below w.heap.size w w') := hid_of (by
    rw [hn]
    exact (CD.out).mono fun e w' q => by
      rcases q with ⟨Rs, x, n, m, q1, q2, q3, q4⟩ | ⟨q1, _⟩
      · rw [hR] at q1
        cases q1
        exact ⟨x, n, m, q2, q3, q4⟩
      · rw [hR] at q1; cases q1)
  clear h hR hr CD hn
  go_enter Try.func19, Try.ntmps19
  go_wp2_with (go_at_call 39; ((with_reducible refine (CD2.out).mono ?_); (rintro e w1 ⟨x, n1, m1, rfl, q1, q2⟩)); have B1 := hid_of q1; have B2 := hid_of q2; clear q1 q2)
  go_ret
  exact ⟨x, n1, m1, rfl, B1.out, B2.out⟩
theorem left_any (h : JK S SD w jb b M fs ct d wk vs) : Calls Try.prog 20 #[.pointer (some ⟨jb, 0, none⟩)] w fun e w' => e = .returned (.int .i64 (if wk = true then bestL ((ct - 1) * M.sz - d.length) ((ct - 1) * M.sz - d.length) else -1)) ∧ Below w.heap.size w w' := by
  obtain ⟨ao, cap, rfl⟩ := own_shape h.str
  obtain ⟨c0, c1, c2, c3, c4⟩ := h.cells
  cases wk with
  | false =>
    clear h
    go_enter Try.func20, Try.ntmps20
    go_wp2
    go_ret
    exact ⟨rfl, Below.refl _ _⟩
  | true =>
    have CR := hid_of (fun m => room_any S SD (w.drewN m) jb b M fs ct d true _ (h.keep ⟨Nat.le_refl _, fun _ _ _ => rfl⟩))
    have hb := h.bounds
    have hl := h.len
    obtain ⟨r, hr⟩ : ∃ r, r = (ct - 1) * M.sz := ⟨_, rfl⟩
    obtain ⟨n, hn⟩ : ∃ n, n = d.length := ⟨_, rfl⟩
    rw [← hr] at CR hb hl ⊢
    rw [← hn] at c3 hb hl ⊢
    obtain ⟨l, hl2⟩ : ∃ l, l = r - n := ⟨_, rfl⟩
    rw [← hl2]
    have HLE := hid_of (show l ≤ 268435456 by omega)
    have a1 : IntKind.i64.wrap ((r : Int) - (n : Int)) = (l : Int) := by rw [show (r : Int) - (n : Int) = (l : Int) by omega]; exact IntWalk.i64_in _ (by omega)
    have a2 : IntKind.i64.wrap ((l : Int) - 1) = (l : Int) - 1 := IntWalk.i64_in _ (by omega)
    have CE := hid_of (fun (k : Nat) (hk : k ≤ 70000000000000) (X : World) => encLen_any k hk X)
    simp only [if_true]
    clear h hr hn hl2 hb hl
    go_enter Try.func20, Try.ntmps20
    go_wp2
    go_quiet (first | (go_at_call 40; exact Calls.quiet_of (CR.out _)))
    go_wp2
    go_loopw [4] (fun iv wr => ∃ k : Nat, k ≤ l ∧ iv = .int .i64 ((k : Int) - 1) ∧ Hid (bestL l l = bestL l k) ∧ Hid (Below w.heap.size w wr)) (fun iv _ => (intOf iv + 1).toNat)
    case atStart => exact ⟨l, Nat.le_refl _, rfl, hid_of rfl, hid_of (bel_drewN (Below.refl _ _) _)⟩
    case round =>
      obtain ⟨k, hk, rfl, hbl, hbe⟩ := hrel
      rcases k with _ | j
      · have e0 : ((0 : Nat) : Int) - 1 = -1 := rfl
        rw [e0]
        have HF := hid_of (hbl.out.trans (show bestL l 0 = -1 from rfl))
        go_wp2
        go_ret
        exact ⟨by rw [HF.out]; rfl, hbe.out⟩
      · have ej : ((j + 1 : Nat) : Int) - 1 = (j : Int) := by omega
        rw [ej]
        have dge : decide ((j : Int) ≥ 0) = true := by simp
        have dge2 : decide ((0 : Int) ≤ (j : Int)) = true := by simp
        have CJ := hid_of (CE.out j (by have := HLE.out; omega))
        obtain ⟨q, hq⟩ : ∃ q, q = (enc j).length + j := ⟨_, rfl⟩
        rw [← hq] at CJ
        by_cases hql : q ≤ l
        · have dq : decide ((q : Int) > (l : Int)) = false := by simp; omega
          have dq2 : decide ((l : Int) < (q : Int)) = false := by simp; omega
          have dq3 : decide (l < q) = false := by simp; omega
          have HF := hid_of (hbl.out.trans (show bestL l (j + 1) = j by rw [bestL, if_pos (by omega)]))
          clear hql hq
          go_wp2_with (go_at_call 41; ((with_reducible refine (CJ.out _).mono ?_); (rintro e w2 ⟨rfl, q1⟩)); have B2 := hid_of q1; clear q1)
          go_ret
          exact ⟨by rw [HF.out]; rfl, hbe.out.trans (B2.out.mono hbe.out.size)⟩
        · have dq : decide ((q : Int) > (l : Int)) = true := by simp; omega
          have dq2 : decide ((l : Int) < (q : Int)) = true := by simp; omega
          have dq3 : decide (l < q) = true := by simp; omega
          have HS := hid_of (hbl.out.trans (best_step (left := l) (k := j) (by omega)))
          have HB2 := hid_of hbe.out.size
          have a3 : IntKind.i64.wrap ((j : Int) - 1) = (j : Int) - 1 := IntWalk.i64_in _ (by have := HLE.out; omega)
          clear hql hq
          go_wp2_with (go_at_call 41; ((with_reducible refine (CJ.out _).mono ?_); (rintro e w2 ⟨rfl, q1⟩)); have B2 := hid_of (hbe.out.trans (q1.mono HB2.out)); clear q1)
          go_roundw
          case rel => exact ⟨j, by omega, by first | rfl | rw [a3], HS, B2⟩
          case measure => first | (simp [intOf]; done) | (simp [intOf]; omega)
theorem fits_any (R : List (List Int)) (hl : (streamF R).length ≤ 1000000000) (a : Option Addr) (n c : Nat) (hRB : RB (fun k => k < w.heap.size) w (.slice a n c) R) (h : JK S SD w jb b M fs ct d wk vs) :
    Calls Try.prog 53 #[.pointer (some ⟨jb, 0, none⟩), .slice a n c] w fun e w' => e = .returned (.bool (decide (d.length + (streamF R).length ≤ (ct - 1) * M.sz))) ∧ Below w.heap.size w w' := by
  obtain ⟨ao, cap, rfl⟩ := own_shape h.str
  obtain ⟨c0, c1, c2, c3, c4⟩ := h.cells
  have CR := hid_of (fun m => room_any S SD (w.drewN m) jb b M fs ct d wk _ (h.keep ⟨Nat.le_refl _, fun _ _ _ => rfl⟩))
  have hb := h.bounds
  have hle := h.len
  obtain ⟨r, hr⟩ : ∃ r, r = (ct - 1) * M.sz := ⟨_, rfl⟩
  obtain ⟨p, hp⟩ : ∃ p, p = d.length := ⟨_, rfl⟩
  rw [← hr] at CR hb hle ⊢
  rw [← hp] at c3 hb hle ⊢
  obtain ⟨l0, hl0⟩ : ∃ l0, l0 = r - p := ⟨_, rfl⟩
  have HL0 := hid_of hl0
  have HPR := hid_of hle
  have HLE := hid_of (show l0 ≤ 268435456 by omega)
  have a1 : IntKind.i64.wrap ((r : Int) - (p : Int)) = (l0 : Int) := by rw [show (r : Int) - (p : Int) = (l0 : Int) by omega]; exact IntWalk.i64_in _ (by omega)
  have CE := hid_of (fun (k : Nat) (hk : k ≤ 70000000000000) (X : World) => encLen_any k hk X)
  obtain ⟨hn, hc1, hc2⟩ := hRB.len
  have HN := hid_of hn
  have HRB := hid_of hRB
  have HSL := hid_of hl
  have hn9 : n ≤ 9223372036854775807 := by omega
  have HBR := hid_of (show r ≤ 268435456 by omega)
  clear h hr hp hb hle hn hRB hl hl0
  go_enter Try.func53, Try.ntmps53
  go_wp2
  go_quiet (first | (go_at_call 40; exact Calls.quiet_of (CR.out _)))
  go_wp2
  go_loopw [5, 18] (fun lv iv wr => ∃ (j t : Nat), j ≤ n ∧ iv = .int .i64 j ∧ lv = .int .i64 t ∧ Hid (t + (p + (streamF (R.take j)).length) = r) ∧ Hid (Below w.heap.size w wr)) (fun _ iv _ => n - (intOf iv).toNat)
  case atStart => exact ⟨0, l0, Nat.zero_le _, rfl, rfl, hid_of (by have := HL0.out; have := HPR.out; simp [streamF]; omega), hid_of (bel_drewN (Below.refl _ _) _)⟩
  case round =>
    obtain ⟨j, t, hj, rfl, rfl, ht, hbe⟩ := hrel
    by_cases hlt : j < n
    · have d1 : decide (j < n) = true := decide_eq_true hlt
      have hlt' : (j : Int) < (n : Int) := by omega
      obtain ⟨xs, q1, q2, q3, q4⟩ := HRB.out.at hbe.out
      obtain ⟨l, hlj⟩ : ∃ l, R[j]? = some l := ⟨_, List.getElem?_eq_getElem (by have := HN.out; omega)⟩
      obtain ⟨x, hx⟩ : ∃ x, xs[j]? = some x := ⟨_, List.getElem?_eq_getElem (by have := HN.out; omega)⟩
      obtain ⟨g, o, rfl, k0⟩ := rd_at q1 hx
      have hcr := q4 j x l hx hlj
      obtain ⟨xo, xn, xc, rfl, hxn⟩ : ∃ ao m c, x = .slice ao m c ∧ m = l.length := by obtain ⟨a, c, e, _⟩ := hcr.1; exact ⟨a, _, c, e, by rw [by8_length]⟩
      have hst := stream_take hlj
      have hre := rec_le hlj
      have hsl := stream_le (R := R) (j + 1)
      rw [hst] at hsl
      simp only [List.length_append] at hsl
      have CJ := hid_of (CE.out xn (by have := HSL.out; omega))
      obtain ⟨q, hq⟩ : ∃ q, q = (enc xn).length + xn := ⟨_, rfl⟩
      rw [← hq] at CJ
      have hq2 : (streamF (R.take (j + 1))).length = (streamF (R.take j)).length + q := by rw [hst, hq, hxn]; simp only [List.length_append]; omega
      have hsl2 := stream_le (R := R) (j + 1)
      have hq9 : q ≤ 1000000000 := by have := HSL.out; omega
      have ht9 : t ≤ 268435456 := by have := ht.out; have := HBR.out; omega
      have HLT := hid_of hlt
      have HB2 := hid_of hbe.out.size
      have a3 : IntKind.i64.wrap ((t : Int) - (q : Int)) = (t : Int) - (q : Int) := IntWalk.i64_in _ (by omega)
      by_cases hql : q ≤ t
      · obtain ⟨t2, ht2⟩ : ∃ t2, t2 = t - q := ⟨_, rfl⟩
        have e2 : (t : Int) - (q : Int) = (t2 : Int) := by omega
        have E2 := hid_of e2
        have HT := hid_of (show t2 + (p + (streamF (R.take (j + 1))).length) = r by have := ht.out; omega)
        have dn : decide ((t : Int) - (q : Int) < 0) = false := by simp; omega
        clear hlt hx hlj q1 q2 q3 q4 hcr hxn hst hre hsl hq hq2 hsl2 hql ht2 e2
        go_wp2_with (go_at_call 41; ((with_reducible refine (CJ.out _).mono ?_); (rintro e w2 ⟨rfl, q1⟩)); have B2 := hid_of (hbe.out.trans (q1.mono HB2.out)); clear q1)
        go_roundw
        case rel => exact ⟨j + 1, t2, HLT.out, by go_num, by rw [E2.out], HT, B2⟩
        case measure => have := HLT.out; simp [intOf]; omega
      · have dn : decide ((t : Int) - (q : Int) < 0) = true := by simp; omega
        have HF : Hid (decide (p + (streamF R).length ≤ r) = false) := hid_of (by simp; have := ht.out; omega)
        clear hlt hx hlj q1 q2 q3 q4 hcr hxn hst hre hsl hq hq2 hsl2 hql
        go_wp2_with (go_at_call 41; ((with_reducible refine (CJ.out _).mono ?_); (rintro e w2 ⟨rfl, q1⟩)); have B2 := hid_of (hbe.out.trans (q1.mono HB2.out)); clear q1)
        go_ret
        exact ⟨by rw [HF.out]; rfl, B2.out⟩
    · obtain rfl : n = j := by omega
      have d1 : decide (n < n) = false := by simp
      have HF : Hid (decide (p + (streamF R).length ≤ r) = true) := hid_of (by
        have h9 := ht.out
        rw [List.take_of_length_le (by have := HN.out; omega)] at h9
        simp; omega)
      go_wp2
      go_ret
      exact ⟨by rw [HF.out]; rfl, hbe.out⟩
end
end Go.Proofs.Ytofmijebinnejaa

/- append onto an own row; the old value still reads as before. Bounds on sizes alone. -/
namespace Go.Proofs.Ytofmijebinnejaa
open Go.RowKit
section
variable {P : Program} (w : World)
theorem run_append_two (base : Nat) (t tx ty e : TypeId) (i : TypeInfo) (z : Value) (size bytes : Nat) (ht : P.underlying t = some (.slice e)) (hi : P.info? e = some i) (hz : i.zero = some z)
    (hsize : i.size = size) (hby : i.bytes = bytes) (hzs : z.cells.size = size) (hsz : 0 < size)
    (v : Value) (n : Nat) (xs : List Value) (hown : w.ownsRow base e size v n xs) (x : Value) (m : Nat) (news : List Value) (hs : Src P size tx x m news w)
    (h63 : n + m ≤ maxLen) (hbytes : (n + m) * bytes ≤ 140737488355328) (hbase : base ≤ w.heap.size) :
    ∃ v' w', (Builtin.append_ #[t, tx] ty #[v, x]).run P w = .ok v' w' ∧ w'.ownsRow base e size v' (n + m) (xs ++ news) ∧ w.grownBy w' v.ownBlock ∧
      (v' = .slice none 0 0 ↔ v = .slice none 0 0 ∧ m = 0) ∧ (v'.ownBlock = v.ownBlock ∨ v'.ownBlock = some w.heap.size) ∧ w'.ownsRow base e size v n xs := by
  subst hsize
  subst hby
  have hl := hs.newsLen
  have hsmall : n + m ≤ 9223372036854775807 := by simp only [maxLen] at h63; omega
  have hlen : (xs ++ news).length = (n + m) * i.size := by rw [List.length_append, hown.1, hl, Nat.add_mul]
  have grown : ∀ (old : Nat), old < n + m → ∀ (row : Option Nat),
      (w.drew.alloc (.cells ((xs ++ news).toArray ++ Builtin.zeroCells z.cells (grownCap w (n + m) old e - (n + m))) e)).ownsRow base e i.size
        (.slice (some ⟨w.heap.size, 0, none⟩) (n + m) (grownCap w (n + m) old e)) (n + m) (xs ++ news) ∧
      w.grownBy (w.drew.alloc (.cells ((xs ++ news).toArray ++ Builtin.zeroCells z.cells (grownCap w (n + m) old e - (n + m))) e)) row := by
    intro old ho row
    have hge := grownCap_ge w (n + m) old e
    have hcm : grownCap w (n + m) old e ≤ maxLen := grownCap_le_maxLen w (n + m) old e h63
    refine ⟨⟨hlen, .inr ⟨w.heap.size, _, _, rfl, hbase, heap_alloc_new w.drew _, hge, hcm, ?_, ?_⟩⟩, ⟨rfl, rfl, rfl, by simp, fun k hk _ => Go.RowKit.Below.heap_alloc w.drew _ k hk⟩⟩
    · rw [Array.size_append, List.size_toArray, size_zeroCells, hzs, hlen, ← Nat.add_mul]
      congr 1
      omega
    · rw [Array.toList_append, ← hlen]
      exact List.take_left
  rcases hown.2 with ⟨rfl, rfl⟩ | ⟨g, cap, cur, rfl, hbg, hg, hnc, hcm, hcs, htake⟩
  · have hx : xs = [] := List.eq_nil_of_length_eq_zero (by simpa using hown.1)
    subst hx
    by_cases hm : m = 0
    · subst hm
      have hn : news = [] := List.eq_nil_of_length_eq_zero (by simpa using hl)
      subst hn
      refine ⟨.slice none 0 0, w, ?_, World.ownsRow_nil w base e i.size, ⟨rfl, rfl, rfl, Nat.le_refl _, fun _ _ _ => rfl⟩, by simp, Or.inl rfl, World.ownsRow_nil _ _ _ _⟩
      rcases hs.kind with ⟨e', hk⟩ | hk <;> simp [Builtin.append_, run_underlying ht, run_underlying hk, sizeOf, typeInfo, hi, hs.len, hs.cells]
    · have hr := run_append_grow_src (P := P) w t tx ty e i z ht hi hz none 0 0 [] (by simp [Builtin.firstCells]) x m news hs (by omega) (by omega) (growslice_fits (by omega) hbytes)
      have hgr := grown 0 (by omega) (Value.ownBlock (.slice none 0 0))
      exact ⟨_, _, hr, hgr.1, hgr.2, by simp [hm], Or.inr rfl, World.ownsRow_nil _ _ _ _⟩
  · by_cases hroom : n + m ≤ cap
    · have hfit : n * i.size + news.length ≤ cur.size := by rw [hl, hcs, ← Nat.add_mul]; exact Nat.mul_le_mul_right _ hroom
      have hst := run_storeCells_at P g (n * i.size) e news 0 cur w hg (by simpa using hfit) hs.one
      simp only [Nat.add_zero] at hst
      have hr : (Builtin.append_ #[t, tx] ty #[.slice (some ⟨g, 0, none⟩) n cap, x]).run P w =
          .ok (.slice (some ⟨g, 0, none⟩) (n + m) cap) (w.setRow g (cur.toList.take (n * i.size) ++ news ++ cur.toList.drop (n * i.size + news.length)).toArray) := by
        rcases hs.kind with ⟨e', hk⟩ | hk <;> simp [Builtin.append_, run_underlying ht, run_underlying hk, sizeOf, typeInfo, hi, hs.len, hroom, hs.cells, Addr.add_lit, hst]
      refine ⟨_, _, hr, ⟨hlen, .inr ⟨g, cap, _, rfl, hbg, setRow_heap w g cur _ e _ hg, hroom, hcm, ?_, ?_⟩⟩, ⟨rfl, rfl, rfl, by simp, fun k _ hk => setRow_other w g k _ (fun e => hk (by simp [Value.ownBlock, e]))⟩, by simp, Or.inl rfl, ⟨hown.1, .inr ⟨g, cap, _, rfl, hbg, setRow_heap w g cur _ e _ hg, hnc, hcm, ?_, ?_⟩⟩⟩
      · simp only [List.size_toArray, List.length_append, List.length_take, List.length_drop, Array.length_toList]
        omega
      · rw [htake, ← hlen]
        exact List.take_left
      · simp only [List.size_toArray, List.length_append, List.length_take, List.length_drop, Array.length_toList]
        omega
      · rw [htake, List.append_assoc]
        rw [← hown.1]
        exact List.take_left
    · have holds : ∀ j u, xs[j]? = some u → w.drew.cell? ((⟨g, 0, none⟩ : Addr).add j) = some u := by simpa using hown.cells (g := g) rfl
      have hr := run_append_grow_src (P := P) w t tx ty e i z ht hi hz (some ⟨g, 0, none⟩) n cap xs (run_firstCells_some w.drew i.size n ⟨g, 0, none⟩ n cap xs hown.1 holds) x m news hs (by omega) (by omega) (growslice_fits (by omega) hbytes)
      have hgr := grown cap (by omega) (Value.ownBlock (.slice (some ⟨g, 0, none⟩) n cap))
      exact ⟨_, _, hr, hgr.1, hgr.2, by simp, Or.inr rfl, hown.drew.alloc _⟩

theorem wpList_two {ops : Array Oper} {rest : List Oper} {o : Oper} {a : Act} {Q : Exit → Act → World → Prop} (hgd : o.guard = none) (s x : Operand) (t tx : TypeId)
    (ho : o.op = .call { callee := .builtin .append, args := #[s, x], argTypes := #[t, tx] })
    (base : Nat) (e : TypeId) (i : TypeInfo) (z : Value) (size bytes : Nat) (ht : P.underlying t = some (.slice e)) (hi : P.info? e = some i) (hz : i.zero = some z)
    (hsize : i.size = size) (hby : i.bytes = bytes) (hzs : z.cells.size = size) (hsz : 0 < size)
    (v : Value) (n : Nat) (xs : List Value) (he : a.eval s = v) (hown : w.ownsRow base e size v n xs) (y : Value) (m : Nat) (news : List Value) (hx : a.eval x = y) (hs : Src P size tx y m news w)
    (h63 : n + m ≤ maxLen) (hbytes : (n + m) * bytes ≤ 140737488355328) (hbase : base ≤ w.heap.size)
    (h : ∀ (ao : Option Addr) (cap : Nat) (w' : World), w'.ownsRow base e size (.slice ao (n + m) cap) (n + m) (xs ++ news) → w.grownBy w' v.ownBlock → ((Value.slice ao (n + m) cap).ownBlock = v.ownBlock ∨ (Value.slice ao (n + m) cap).ownBlock = some w.heap.size) → w'.ownsRow base e size v n xs → wpList P ops Q rest (a.put o.dst (.slice ao (n + m) cap)) w') :
    wpList P ops Q (o :: rest) a w := by
  refine wpList_plain hgd fun K hK => ?_
  obtain ⟨v', w', hr, h2, h3, h4, h5, h6⟩ := run_append_two (P := P) w base t tx o.type e i z size bytes ht hi hz hsize hby hzs hsz v n xs hown y m news hs h63 hbytes hbase
  obtain ⟨ao, cap, rfl⟩ := own_shape h2
  unfold Oper.wp execOp
  simp only [ho, resolve, invoke, builtin, Sem.run_bind, Sem.run_pure, Result.andThen_ok, List.map_toArray, List.map_cons, List.map_nil, he, hx, hr]
  exact hK _ _ (h ao cap w' h2 h3 h5 h6)
end
end Go.Proofs.Ytofmijebinnejaa

/- The journal's commit. Bounds on sizes alone. -/
namespace Go.Proofs.Ytofmijebinnejaa
open Go.RowKit
open Wr (enc enc_length_10 enc_length_le enc_lt)
set_option maxRecDepth 100000
set_option maxHeartbeats 6400000

theorem headB_len {n : Nat} (hn : n ≤ 268435456) : (headB n).length ≤ 13 := by
  have h1 := enc_length_le 4 n (by omega)
  have h7 : enc 7 = [7] := enc_lt (by omega)
  simp only [headB, List.length_append, h7, List.length_singleton, jnT, List.length_cons, List.length_nil]
  omega
theorem headF_len {sz n : Nat} (hn : n ≤ 268435456) (hz : 16 ≤ sz) : (headF sz n).length = sz := by
  have := headB_len hn
  simp only [headF, List.length_append, List.length_replicate]
  omega
theorem write_same (M : DM) (s : Int) (l : List Int) : (writeF M s l).2.secs = M.secs ∧ (writeF M s l).2.sz = M.sz := by
  obtain ⟨e1, e2, e3⟩ := stepF_same M
  unfold writeF
  split
  · exact ⟨rfl, rfl⟩
  · split
    · exact ⟨e2, e1⟩
    · exact ⟨e2, e1⟩
theorem write_cache (M : DM) (s : Int) (l : List Int) : (writeF M s l).2.cache.length ≤ M.cache.length + 1 := by
  obtain ⟨e1, e2, e3⟩ := stepF_same M
  unfold writeF
  split
  · simp
  · split
    · simp [e3]
    · simp
theorem write_code {M : DM} {s : Nat} {l : List Int} (hs : s < M.secs.length) (hl : l.length = M.sz) : (writeF M s l).1 = 0 ∨ (writeF M s l).1 = 8 := by
  have hf : M.fits s = true := by simp only [DM.fits, decide_eq_true_eq]; omega
  unfold writeF
  rw [if_neg (by simp [hf, hl])]
  split
  · exact Or.inr rfl
  · exact Or.inl rfl
theorem sync_same (M : DM) : (syncF M).2.secs.length = M.secs.length ∧ (syncF M).2.sz = M.sz := by
  obtain ⟨e1, e2, e3⟩ := stepF_same M
  unfold syncF
  split
  · exact ⟨by rw [e2], e1⟩
  · exact ⟨by simp [putF_len], e1⟩
theorem sync_code (M : DM) : (syncF M).1 = 0 ∨ (syncF M).1 = 8 := by
  unfold syncF
  split
  · exact Or.inr rfl
  · exact Or.inl rfl
/-- The one write of the head, and the sync. -/
def comF (M : DM) (fs n : Nat) : Bool × DM := if (writeF M fs (headF M.sz n)).1 = 0 then (decide ((syncF (writeF M fs (headF M.sz n)).2).1 = 0), (syncF (writeF M fs (headF M.sz n)).2).2) else (false, (writeF M fs (headF M.sz n)).2)
section
variable {S T SD : Nat → Prop} {w w' : World} {jb b : Nat} {M M2 : DM} {fs ct : Nat} {d : List Int} {wk : Bool} {vs : Value}
theorem nw_lt (hlt : ∀ k, S k → k < w.heap.size) (hs : w.heap.size ≤ w'.heap.size) : ∀ k, Nw S w w' k → k < w'.heap.size := fun k hk => by
  rcases hk with h | h
  · exact Nat.lt_of_lt_of_le (hlt k h) hs
  · exact h.2
theorem JK.disk (h : JK S SD w jb b M fs ct d wk vs) (d2 : IG.DS (Nw SD w w') w' b M2) (k : Kept SD w w') (e1 : M2.secs.length = M.secs.length) (e2 : M2.sz = M.sz) : JK (Nw S w w') (Nw SD w w') w' jb b M2 fs ct d wk vs := by
  have hn : ∀ q, q < w.heap.size → ¬ SD q → ¬ Nw SD w w' q := fun q hq hs hn => by
    rcases hn with h1 | h1
    · exact hs h1
    · omega
  refine ⟨Or.inl h.sj, fun q hq => ?_, hn jb h.jlt h.nj, (k.block jb h.jlt h.nj).trans h.box, d2, own_same h.str fun q hq => k.block q (h.str.lt q hq).2 (h.si q hq).2.2, fun q hq => ⟨Or.inl (h.si q hq).1, (h.si q hq).2.1, hn q (h.str.lt q hq).2 (h.si q hq).2.2⟩, by rw [e1]; exact h.reg, by rw [e2]; exact h.len, by rw [e2]; exact h.sz⟩
  rcases hq with h1 | h1
  · exact Or.inl (h.sd q h1)
  · exact Or.inr h1
/-- Another stream. -/
theorem JK.stream (h : JK S SD w jb b M fs ct d wk vs) {v2 : Value} {d2 : List Int} (h2 : w.ownsRow 0 5 1 v2 d2.length (by8 d2)) (hs2 : ∀ k, v2.ownBlock = some k → S k ∧ k ≠ jb ∧ ¬ SD k) (hl2 : d2.length ≤ (ct - 1) * M.sz) : JK S SD (w.setCell ⟨jb, 3, none⟩ v2) jb b M fs ct d2 wk v2 :=
  ⟨h.sj, h.sd, h.nj, Go.Proofs.Ytofmijebinnejaa.blk_setCell (k := 3) h.box, IG.keep h.dk (keeps_set w jb 3 _ h.nj), own_same h2 fun k hk => set_blk (Ne.symm (hs2 k hk).2.1), hs2, h.reg, hl2, h.sz⟩
end
section
variable (S SD : Nat → Prop) (w : World) (jb b : Nat) (M : DM) (fs ct : Nat) (d : List Int) (vs : Value)
theorem commit_any (h : JK S SD w jb b M fs ct d true vs) (hlt : ∀ k, S k → k < w.heap.size) (v2 : Value) (d2 : List Int) (h2 : w.ownsRow 0 5 1 v2 d2.length (by8 d2)) (hs2 : ∀ k, v2.ownBlock = some k → S k ∧ k ≠ jb ∧ ¬ SD k) (hl2 : d2.length ≤ (ct - 1) * M.sz) (hc : M.cache.length < 1000000) :
    Calls Try.prog 56 #[.pointer (some ⟨jb, 0, none⟩), v2] w fun e w' => e = .returned (.int .i64 (if (comF M fs d2.length).1 = true then 0 else 8)) ∧ (∃ SD2, JK (Nw S w w') SD2 w' jb b (comF M fs d2.length).2 fs ct (if (comF M fs d2.length).1 = true then d2 else d) (comF M fs d2.length).1 (if (comF M fs d2.length).1 = true then v2 else vs)) ∧ Kept S w w' := by
  obtain ⟨a2, k2, rfl⟩ := own_shape h2
  obtain ⟨c0, c1, c2, c3, c4⟩ := h.cells
  have hb := h.bounds
  have hz := h.sz
  obtain ⟨n2, hn2⟩ : ∃ n2, n2 = d2.length := ⟨_, rfl⟩
  have hn9 : n2 ≤ 268435456 := by omega
  have CZ := hid_of (sizeQ_any h.dk)
  obtain ⟨z, hz2⟩ : ∃ z, z = M.sz := ⟨_, rfl⟩
  have CH := hid_of (fun X => head_any n2 (by omega) X)
  have hhb := headB_len hn9
  have hhl := headF_len (sz := z) hn9 (by omega)
  have MK : ∀ w : World, (Instr.makeSlice 46 (.int .i64 z) (.int .i64 z)).run Try.prog w = .ok (.slice (some ⟨w.heap.size, 0, none⟩) z z) (w.alloc (.cells (List.replicate z (.int .u8 0)).toArray 5)) := fun w => by
    have h := run_make_row' (P := Try.prog) 46 5 (.int .u8 0) 1 u8E.und u8E.info rfl .i64 .i64 z (by omega) (by omega) w
    rw [show madeCells #[Value.int .u8 0] z = (List.replicate z (.int .u8 0)).toArray by rw [← Array.toList_inj]; simp [toList_madeCells_one]] at h
    exact h
  rw [← hz2] at CZ
  rw [← hn2]
  have HH := hid_of h
  have HZ2 := hid_of hz2
  have HN2 := hid_of hn2
  have HB := hid_of hb
  have HLT := hid_of hlt
  have HS2 := hid_of hs2
  have H2 := hid_of h2
  have HL2 := hid_of hl2
  have HC := hid_of hc
  rw [← hn2] at HS2 HL2
  have HW0 := hid_of (fun m => heap_alloc_new (w.drewN m) (.cells (List.replicate z (.int .u8 0)).toArray 5))
  clear h hz2 hn2 hb hlt hs2 h2 hl2 hc hz
  have HKS : Hid (∀ X, Below w.heap.size w X → Keeps S w X) := hid_of (fun X hX => ⟨hX.size, fun k hk _ => hX.block k (HLT.out k hk)⟩)
  have HSDL : Hid (∀ k, SD k → k < w.heap.size) := hid_of (fun k hk => HLT.out k (HH.out.sd k hk))
  have HHB := hid_of hhb
  have hzz : 13 ≤ z := by have := HH.out.sz; have := HZ2.out; omega
  have HSP := hid_of (splice_pad z (headB n2) (by omega))
  obtain ⟨hd, hhd⟩ : ∃ hd, hd = headF z n2 := ⟨_, rfl⟩
  have HHD := hid_of hhd
  have HSP2 : Hid (splice (List.replicate z (Value.int .u8 0)) 0 (by8 (headB n2)) = by8 hd) := hid_of (by rw [HSP.out, hhd]; rfl)
  rw [← hhd] at hhl
  have HHL := hid_of hhl
  have CW := hid_of (fun (X : World) (c : Nat) (hX : Below w.heap.size w X) (hc : w.heap.size ≤ c) (hr : X.heap[c]? = some (.cells (by8 hd).toArray 5 (0, 0))) => IG.write (fun k => w.heap.size ≤ k) (fs : Int) ⟨by omega, by have := HB.out; omega⟩ (some ⟨c, 0, none⟩) z z hd HC.out ⟨⟨some ⟨c, 0, none⟩, z, by rw [by8_length, HHL.out], by rw [by8_length, HHL.out]; exact Nat.le_refl _, by have := HB.out; have := HZ2.out; omega, fun _ => ⟨c, 0, rfl, lt_of_block hr, fun i t ht => by rw [Nat.zero_add]; exact cell_blk hr ht⟩⟩, fun _ a n c' e => by cases e; exact hc⟩ (fun k hk hs => by have := HSDL.out k hs; omega) (IG.keep HH.out.dk ⟨hX.size, fun k hk _ => hX.block k (HSDL.out k hk)⟩))
  have HWC : Hid ((writeF M fs hd).1 = 0 ∨ (writeF M fs hd).1 = 8) := hid_of (write_code (by have := HH.out.reg; omega) (by rw [HHL.out, HZ2.out]))
  obtain ⟨hws1, hws2⟩ := write_same M fs hd
  have hwc := write_cache M fs hd
  have HCF : Hid (comF M fs n2 = if (writeF M fs hd).1 = 0 then (decide ((syncF (writeF M fs hd).2).1 = 0), (syncF (writeF M fs hd).2).2) else (false, (writeF M fs hd).2)) := hid_of (by rw [comF, ← HZ2.out, ← hhd])
  obtain ⟨e1, he1⟩ : ∃ e1, e1 = (writeF M fs hd).1 := ⟨_, rfl⟩
  obtain ⟨M1, hM1⟩ : ∃ M1, M1 = (writeF M fs hd).2 := ⟨_, rfl⟩
  rw [← he1, ← hM1] at CW
  rw [← he1, ← hM1] at HCF
  rw [← he1] at HWC
  rw [← hM1] at hws1 hws2 hwc
  have HWS := hid_of (And.intro hws1 (And.intro hws2 hwc))
  clear hhd hhb hhl he1 hM1 hws1 hws2 hwc HSP
  by_cases he : e1 = 0
  · subst he
    obtain ⟨e2, he2⟩ : ∃ e2, e2 = (syncF M1).1 := ⟨_, rfl⟩
    obtain ⟨M2, hM2⟩ : ∃ M2, M2 = (syncF M1).2 := ⟨_, rfl⟩
    obtain ⟨ss1, ss2⟩ := sync_same M1
    rw [← hM2] at ss1 ss2
    have HSS := hid_of (And.intro ss1 ss2)
    have HSC : Hid (e2 = 0 ∨ e2 = 8) := hid_of (by rw [he2]; exact sync_code M1)
    have HCF2 : Hid (comF M fs n2 = (decide (e2 = 0), M2)) := hid_of (by rw [HCF.out, if_pos rfl, ← he2, ← hM2])
    have CS := hid_of (fun (X : World) (T : Nat → Prop) (hd : IG.DS T X b M1) => IG.sync (by have := HWS.out.2.2; have := HC.out; omega) hd)
    rw [← he2, ← hM2] at CS
    rw [HCF2.out]
    clear he2 hM2 ss1 ss2
    by_cases h2 : e2 = 0
    · subst h2
      have HT : Hid ((decide ((0 : Int) = 0), M2) = (true, M2)) := hid_of rfl
      rw [HT.out]
      go_enter Try.func56, Try.ntmps56
      go_wp2_with (first
        | (go_at_call 65; ((with_reducible refine (CZ.out).mono ?_); (rintro e w1 ⟨rfl, ⟨m, rfl⟩⟩)))
        | (go_at_call 74; ((with_reducible refine (CH.out _).mono ?_); (rintro e w3 ⟨g3, rfl, q1, q2, q3⟩)); have R3 := hid_of q2; have W3 := hid_of ((q3.block w.heap.size (by simp)).trans (HW0.out m)); have BB3 := hid_of ((bel_drewN (Below.refl w.heap.size w) m).trans ((bel_alloc (w.drewN m) (.cells (List.replicate z (.int .u8 0)).toArray 5)).trans (q3.mono (by simp)))); clear q1 q2 q3)
        | (refine wpList_copy_splice rfl _ _ 46 46 rfl 5 Try.underlying46 sizeB (some ⟨w.heap.size, 0, none⟩) (some ⟨g3, 0, none⟩) z z (headB n2).length (headB n2).length rfl rfl w.heap.size 0 (List.replicate z (Value.int .u8 0)) 5 W3.out (by8 (headB n2)) (by rw [by8_length]; exact (Nat.min_eq_left (by have := HHB.out; omega)).symm) (fun _ => ⟨rfl, _, rfl, fun j v hv => by rw [Addr.add_mid, Nat.zero_add]; exact cell_blk R3.out hv⟩) (by rw [by8_length]; have := HHB.out; simp; omega) (by8_cells _) w.heap.size w BB3.out (Nat.le_refl _) ?_; intro w4 h6 h7; rw [HSP2.out] at h6; have C4 : Hid (w4.drew.heap[w.heap.size]? = some (.cells (by8 hd).toArray 5 (0, 0))) := h6; have BB4 := hid_of (show Below w.heap.size w w4.drew from h7.drew); have J4 := hid_of ((HH.out.keep (HKS.out w4 h7)).keep (w' := w4.drew) ⟨Nat.le_refl _, fun _ _ _ => rfl⟩); clear h6 h7))
      obtain ⟨y0, y1, y2, y3, y4⟩ := J4.out.cells
      have f43 := J4.out.free 3
      first
      | (go_region_with (first
        | (go_at_call 27; ((with_reducible refine (CW.out w4.drew w.heap.size BB4.out (Nat.le_refl _) C4.out).mono ?_); (rintro e w5 ⟨rfl, q1, q2⟩)); have J5 := hid_of (J4.out.disk q1 q2 (by rw [HWS.out.1]) HWS.out.2.1); have K5 := hid_of q2; obtain ⟨z0, z1, z2, z3, z4⟩ := J5.out.cells; clear q1 q2)
        | (go_at_call 28; ((with_reducible refine (CS.out w5 _ J5.out.dk).mono ?_); (rintro e w6 ⟨rfl, q1, q2⟩)); have J6 := hid_of (J5.out.disk q1 q2 HSS.out.1 HSS.out.2); have K6 := hid_of q2; obtain ⟨t0, t1, t2, t3, t4⟩ := J6.out.cells; clear q1 q2)
        | (go_at_call 70; ((with_reducible refine (check_any _ _ w6 jb b M2 fs ct d true vs true J6.out).mono ?_); (rintro e w7 ⟨rfl, q1, q2⟩)); have J7 := hid_of q1; have K7 := hid_of q2; obtain ⟨u0, u1, u2, u3, u4⟩ := J7.out.cells; have f73 := J7.out.free 3; clear q1 q2)))
      | fail
      all_goals go_wp2
      all_goals go_ret
      all_goals (
        have hs4 := BB4.out.size
        have hs5 := K5.out.size
        have hs6 := K6.out.size
        have hs7 := K7.out.size
        have hk5 : Kept S w w5 := (Kept.ofBelow BB4.out).trans (K5.out.mono HH.out.sd)
        have hk6 : Kept S w w6 := ⟨K6.out.os.trans hk5.os, K6.out.tape.trans hk5.tape, K6.out.output.trans hk5.output, by omega, fun k hk hn => (K6.out.block k (by omega) (fun h => by
          rcases h with h1 | h1
          · exact hn (HH.out.sd k h1)
          · omega)).trans (hk5.block k hk hn)⟩
        have hsame : ∀ k, (Value.slice a2 n2 k2).ownBlock = some k → w7.heap[k]? = w.heap[k]? := fun k hk => by
          obtain ⟨r1, r2, r3⟩ := HS2.out k hk
          have hlt := HLT.out k r1
          exact (K7.out.block k (by omega) r2).trans ((K6.out.block k (by omega) (fun h => by
            rcases h with h1 | h1
            · exact r3 h1
            · omega)).trans ((K5.out.block k (by omega) r3).trans (BB4.out.block k hlt)))
        have hh2 : w7.ownsRow 0 5 1 (.slice a2 n2 k2) d2.length (by8 d2) := own_same (by have h9 := H2.out; rwa [← HN2.out] at h9 ⊢) hsame
        have hst := J7.out.stream (v2 := .slice a2 n2 k2) (d2 := d2) hh2 (fun k hk => by
          obtain ⟨r1, r2, r3⟩ := HS2.out k hk
          have hlt := HLT.out k r1
          refine ⟨Or.inl (Or.inl r1), r2, fun h => ?_⟩
          rcases h with h1 | h1
          · rcases h1 with h1 | h1
            · exact r3 h1
            · omega
          · omega) (by rw [HSS.out.2, HWS.out.2.1]; have := HL2.out; have := HN2.out; omega)
        refine ⟨rfl, ⟨_, hst.mono (fun k hk => ?_)⟩, (hk6.trans (K7.out.mono fun k e => by rw [e]; exact HH.out.sj)).setCell jb 3 _ (Or.inl HH.out.sj)⟩
        rcases hk with h1 | h1
        · rcases h1 with h1 | h1
          · exact Or.inl h1
          · exact Or.inr ⟨by omega, by simp; omega⟩
        · exact Or.inr ⟨by omega, by simp; omega⟩)
    · have h8 : e2 = 8 := by have := HSC.out; omega
      subst h8
      have HT : Hid ((decide ((8 : Int) = 0), M2) = (false, M2)) := hid_of rfl
      rw [HT.out]
      clear h2
      go_enter Try.func56, Try.ntmps56
      go_wp2_with (first
        | (go_at_call 65; ((with_reducible refine (CZ.out).mono ?_); (rintro e w1 ⟨rfl, ⟨m, rfl⟩⟩)))
        | (go_at_call 74; ((with_reducible refine (CH.out _).mono ?_); (rintro e w3 ⟨g3, rfl, q1, q2, q3⟩)); have R3 := hid_of q2; have W3 := hid_of ((q3.block w.heap.size (by simp)).trans (HW0.out m)); have BB3 := hid_of ((bel_drewN (Below.refl w.heap.size w) m).trans ((bel_alloc (w.drewN m) (.cells (List.replicate z (.int .u8 0)).toArray 5)).trans (q3.mono (by simp)))); clear q1 q2 q3)
        | (refine wpList_copy_splice rfl _ _ 46 46 rfl 5 Try.underlying46 sizeB (some ⟨w.heap.size, 0, none⟩) (some ⟨g3, 0, none⟩) z z (headB n2).length (headB n2).length rfl rfl w.heap.size 0 (List.replicate z (Value.int .u8 0)) 5 W3.out (by8 (headB n2)) (by rw [by8_length]; exact (Nat.min_eq_left (by have := HHB.out; omega)).symm) (fun _ => ⟨rfl, _, rfl, fun j v hv => by rw [Addr.add_mid, Nat.zero_add]; exact cell_blk R3.out hv⟩) (by rw [by8_length]; have := HHB.out; simp; omega) (by8_cells _) w.heap.size w BB3.out (Nat.le_refl _) ?_; intro w4 h6 h7; rw [HSP2.out] at h6; have C4 : Hid (w4.drew.heap[w.heap.size]? = some (.cells (by8 hd).toArray 5 (0, 0))) := h6; have BB4 := hid_of (show Below w.heap.size w w4.drew from h7.drew); have J4 := hid_of ((HH.out.keep (HKS.out w4 h7)).keep (w' := w4.drew) ⟨Nat.le_refl _, fun _ _ _ => rfl⟩); clear h6 h7))
      obtain ⟨y0, y1, y2, y3, y4⟩ := J4.out.cells
      have f43 := J4.out.free 3
      first
      | (go_region_with (first
        | (go_at_call 27; ((with_reducible refine (CW.out w4.drew w.heap.size BB4.out (Nat.le_refl _) C4.out).mono ?_); (rintro e w5 ⟨rfl, q1, q2⟩)); have J5 := hid_of (J4.out.disk q1 q2 (by rw [HWS.out.1]) HWS.out.2.1); have K5 := hid_of q2; obtain ⟨z0, z1, z2, z3, z4⟩ := J5.out.cells; clear q1 q2)
        | (go_at_call 28; ((with_reducible refine (CS.out w5 _ J5.out.dk).mono ?_); (rintro e w6 ⟨rfl, q1, q2⟩)); have J6 := hid_of (J5.out.disk q1 q2 HSS.out.1 HSS.out.2); have K6 := hid_of q2; obtain ⟨t0, t1, t2, t3, t4⟩ := J6.out.cells; clear q1 q2)
        | (go_at_call 70; ((with_reducible refine (check_any _ _ w6 jb b M2 fs ct d true vs false J6.out).mono ?_); (rintro e w7 ⟨rfl, q1, q2⟩)); have J7 := hid_of q1; have K7 := hid_of q2; obtain ⟨u0, u1, u2, u3, u4⟩ := J7.out.cells; have f73 := J7.out.free 3; clear q1 q2)))
      | fail
      all_goals go_wp2
      all_goals go_ret
      all_goals (
        have hs4 := BB4.out.size
        have hs5 := K5.out.size
        have hs6 := K6.out.size
        have hs7 := K7.out.size
        have hk5 : Kept S w w5 := (Kept.ofBelow BB4.out).trans (K5.out.mono HH.out.sd)
        have hk6 : Kept S w w6 := ⟨K6.out.os.trans hk5.os, K6.out.tape.trans hk5.tape, K6.out.output.trans hk5.output, by omega, fun k hk hn => (K6.out.block k (by omega) (fun h => by
          rcases h with h1 | h1
          · exact hn (HH.out.sd k h1)
          · omega)).trans (hk5.block k hk hn)⟩
        exact ⟨rfl, ⟨_, J7.out.mono (fun k hk => by
          rcases hk with h1 | h1
          · rcases h1 with h1 | h1
            · exact Or.inl h1
            · exact Or.inr ⟨by omega, by omega⟩
          · exact Or.inr ⟨by omega, by omega⟩)⟩, hk6.trans (K7.out.mono fun k e => by rw [e]; exact HH.out.sj)⟩)
  · have h8 : e1 = 8 := by have := HWC.out; omega
    subst h8
    have HCF2 : Hid (comF M fs n2 = (false, M1)) := hid_of (by rw [HCF.out, if_neg (by omega)])
    rw [HCF2.out]
    clear he
    go_enter Try.func56, Try.ntmps56
    go_wp2_with (first
      | (go_at_call 65; ((with_reducible refine (CZ.out).mono ?_); (rintro e w1 ⟨rfl, ⟨m, rfl⟩⟩)))
      | (go_at_call 74; ((with_reducible refine (CH.out _).mono ?_); (rintro e w3 ⟨g3, rfl, q1, q2, q3⟩)); have R3 := hid_of q2; have W3 := hid_of ((q3.block w.heap.size (by simp)).trans (HW0.out m)); have BB3 := hid_of ((bel_drewN (Below.refl w.heap.size w) m).trans ((bel_alloc (w.drewN m) (.cells (List.replicate z (.int .u8 0)).toArray 5)).trans (q3.mono (by simp)))); clear q1 q2 q3)
      | (refine wpList_copy_splice rfl _ _ 46 46 rfl 5 Try.underlying46 sizeB (some ⟨w.heap.size, 0, none⟩) (some ⟨g3, 0, none⟩) z z (headB n2).length (headB n2).length rfl rfl w.heap.size 0 (List.replicate z (Value.int .u8 0)) 5 W3.out (by8 (headB n2)) (by rw [by8_length]; exact (Nat.min_eq_left (by have := HHB.out; omega)).symm) (fun _ => ⟨rfl, _, rfl, fun j v hv => by rw [Addr.add_mid, Nat.zero_add]; exact cell_blk R3.out hv⟩) (by rw [by8_length]; have := HHB.out; simp; omega) (by8_cells _) w.heap.size w BB3.out (Nat.le_refl _) ?_; intro w4 h6 h7; rw [HSP2.out] at h6; have C4 : Hid (w4.drew.heap[w.heap.size]? = some (.cells (by8 hd).toArray 5 (0, 0))) := h6; have BB4 := hid_of (show Below w.heap.size w w4.drew from h7.drew); have J4 := hid_of ((HH.out.keep (HKS.out w4 h7)).keep (w' := w4.drew) ⟨Nat.le_refl _, fun _ _ _ => rfl⟩); clear h6 h7))
    obtain ⟨y0, y1, y2, y3, y4⟩ := J4.out.cells
    have f43 := J4.out.free 3
    first
    | (go_region_with (first
      | (go_at_call 27; ((with_reducible refine (CW.out w4.drew w.heap.size BB4.out (Nat.le_refl _) C4.out).mono ?_); (rintro e w5 ⟨rfl, q1, q2⟩)); have J5 := hid_of (J4.out.disk q1 q2 (by rw [HWS.out.1]) HWS.out.2.1); have K5 := hid_of q2; obtain ⟨z0, z1, z2, z3, z4⟩ := J5.out.cells; clear q1 q2)
      | (go_at_call 70; ((with_reducible refine (check_any _ _ w5 jb b M1 fs ct d true vs false J5.out).mono ?_); (rintro e w6 ⟨rfl, q1, q2⟩)); have J6 := hid_of q1; have K6 := hid_of q2; obtain ⟨u0, u1, u2, u3, u4⟩ := J6.out.cells; clear q1 q2)))
    | fail
    all_goals go_wp2
    all_goals go_ret
    all_goals (
      have hs4 := BB4.out.size
      have hs5 := K5.out.size
      have hs6 := K6.out.size
      exact ⟨rfl, ⟨_, J6.out.mono (fun k hk => by
        rcases hk with h1 | h1
        · exact Or.inl h1
        · exact Or.inr ⟨by omega, by omega⟩)⟩, ((Kept.ofBelow BB4.out).trans (K5.out.mono HH.out.sd)).trans (K6.out.mono fun k e => by rw [e]; exact HH.out.sj)⟩)
end
end Go.Proofs.Ytofmijebinnejaa

/- What the journal's fill does to a disk, as mathematics. No condition but sizes. -/
namespace Go.Proofs.Ytofmijebinnejaa
open Go.RowKit
set_option maxRecDepth 100000

/-- Sector k of an area that begins with L: bytes of L, zeros behind them. -/
def secL (L : List Int) (sz k : Nat) : List Int := (L.drop (k * sz)).take sz ++ List.replicate (sz - ((L.drop (k * sz)).take sz).length) 0
theorem secL_len (L : List Int) (sz k : Nat) : (secL L sz k).length = sz := by
  simp only [secL, List.length_append, List.length_replicate, List.length_take]
  omega
/-- i sectors from st on are written: whether all writes were good, and the disk. -/
def filF (M : DM) (fs : Nat) (L : List Int) (st : Nat) : Nat → Bool × DM
  | 0 => (true, M)
  | i + 1 => if (filF M fs L st i).1 = true then (decide ((writeF (filF M fs L st i).2 (fs + 1 + (st + i) : Nat) (secL L M.sz (st + i))).1 = 0), (writeF (filF M fs L st i).2 (fs + 1 + (st + i) : Nat) (secL L M.sz (st + i))).2) else filF M fs L st i
theorem filF_same (M : DM) (fs : Nat) (L : List Int) (st : Nat) : ∀ i, (filF M fs L st i).2.secs = M.secs ∧ (filF M fs L st i).2.sz = M.sz ∧ (filF M fs L st i).2.cache.length ≤ M.cache.length + i
  | 0 => ⟨rfl, rfl, Nat.le_refl _⟩
  | i + 1 => by
    obtain ⟨h1, h2, h3⟩ := filF_same M fs L st i
    rw [filF]
    split
    · obtain ⟨e1, e2⟩ := write_same (filF M fs L st i).2 (fs + 1 + (st + i) : Nat) (secL L M.sz (st + i))
      have e3 := write_cache (filF M fs L st i).2 (fs + 1 + (st + i) : Nat) (secL L M.sz (st + i))
      exact ⟨e1.trans h1, e2.trans h2, by simp only []; omega⟩
    · exact ⟨h1, h2, by omega⟩
theorem filF_good {M : DM} {fs : Nat} {L : List Int} {st i : Nat} (h : (filF M fs L st i).1 = true) (h0 : (writeF (filF M fs L st i).2 (fs + 1 + (st + i) : Nat) (secL L M.sz (st + i))).1 = 0) : filF M fs L st (i + 1) = (true, (writeF (filF M fs L st i).2 (fs + 1 + (st + i) : Nat) (secL L M.sz (st + i))).2) := by
  rw [filF, if_pos h, h0]
  rfl
theorem filF_bad {M : DM} {fs : Nat} {L : List Int} {st i : Nat} (h : (filF M fs L st i).1 = true) (h0 : (writeF (filF M fs L st i).2 (fs + 1 + (st + i) : Nat) (secL L M.sz (st + i))).1 ≠ 0) : ∀ j, filF M fs L st (i + 1 + j) = (false, (writeF (filF M fs L st i).2 (fs + 1 + (st + i) : Nat) (secL L M.sz (st + i))).2)
  | 0 => by
    rw [Nat.add_zero, filF, if_pos h, decide_eq_false h0]
  | j + 1 => by
    rw [← Nat.add_assoc, filF, filF_bad h h0 j]
    simp
/-- All of fill: the writes, and the sync. -/
def fillF (M : DM) (fs : Nat) (L : List Int) (st n : Nat) : Bool × DM := if (filF M fs L st n).1 = true then (decide ((syncF (filF M fs L st n).2).1 = 0), (syncF (filF M fs L st n).2).2) else filF M fs L st n
end Go.Proofs.Ytofmijebinnejaa

/- The journal's fill. Bounds on sizes alone. -/
namespace Go.Proofs.Ytofmijebinnejaa
open Go.RowKit
set_option maxRecDepth 100000
set_option maxHeartbeats 6400000

theorem wrap_sub {n st m : Nat} (h : m + st = n) (h2 : n ≤ 9223372036854775807) : IntKind.i64.wrap ((n : Int) - (st : Int)) = (m : Int) := by
  rw [show (n : Int) - (st : Int) = (m : Int) by omega]
  exact IntWalk.i64_in _ (by omega)
theorem wrap_add {st i k : Nat} (h : k = st + i) (h2 : k ≤ 9223372036854775807) : IntKind.i64.wrap ((st : Int) + (i : Int)) = (k : Int) := by
  rw [show (st : Int) + (i : Int) = (k : Int) by omega]
  exact IntWalk.i64_in _ (by omega)
theorem wrap_mul {k z lo : Nat} (h : lo = k * z) (h2 : lo ≤ 9223372036854775807) : IntKind.i64.wrap ((k : Int) * (z : Int)) = (lo : Int) := by
  rw [← Int.natCast_mul, ← h]
  exact IntWalk.i64_in _ (by omega)
theorem need_lt {l z k : Nat} (hz : 0 < z) (h : k < (l + z - 1) / z) : k * z < l := by
  have h1 := (Nat.le_div_iff_mul_le hz).1 h
  rw [Nat.succ_mul] at h1
  omega
theorem need_le {l z k : Nat} (hz : 0 < z) (hk : k ≤ l) : k / z ≤ (l + z - 1) / z := Nat.div_le_div_right (by omega)
theorem splice_sec (z : Nat) (q : List Int) (hq : q.length ≤ z) : splice (List.replicate z (Value.int .u8 0)) 0 (by8 q) = by8 (q ++ List.replicate (z - q.length) 0) := splice_pad z q hq
/-- i writes of fill have gone well. -/
structure FL (S SD SDi : Nat → Prop) (w wr : World) (jb b : Nat) (M : DM) (fs ct : Nat) (d : List Int) (vs sl : Value) (L : List Int) (st i : Nat) : Prop where
  jk : JK (Nw S w wr) SDi wr jb b (filF M fs L st i).2 fs ct d true vs
  sd : ∀ k, SDi k → k < wr.heap.size ∧ (SD k ∨ w.heap.size ≤ k)
  rd : Rd wr sl (by8 L)
  kp : Kept (fun k => k = jb ∨ SD k) w wr
  ok : (filF M fs L st i).1 = true
section
variable {S SD SDi : Nat → Prop} {w wr w3 w5 w6 : World} {jb b : Nat} {M : DM} {fs ct : Nat} {d : List Int} {vs sl : Value} {L : List Int} {st i : Nat}
theorem FL.next (h : FL S SD SDi w wr jb b M fs ct d vs sl L st i) (hsl : 0 < (by8 L).length → In (fun k => k < w.heap.size ∧ k ≠ jb ∧ ¬ SD k) sl) (hsj : S jb) (hsd : ∀ k, SD k → S k) (b3 : Below wr.heap.size wr w3) {M1 : DM} {x : Bool} (k5 : Kept SDi w3 w5) (j6 : JK (Nw (Nw S w wr) w3 w5) (Nw SDi w3 w5) w6 jb b M1 fs ct d x vs) (k6 : Kept (fun k => k = jb) w5 w6) :
    (JK (Nw S w w6) (Nw SDi w3 w5) w6 jb b M1 fs ct d x vs ∧ (∀ k, Nw SDi w3 w5 k → k < w6.heap.size ∧ (SD k ∨ w.heap.size ≤ k)) ∧ Rd w6 sl (by8 L)) ∧ Kept (fun k => k = jb ∨ SD k) w w6 := by
  have s1 := h.kp.size
  have s3 := b3.size
  have s5 := k5.size
  have s6 := k6.size
  have hk3 : Kept (fun k => k = jb ∨ SD k) w w3 := h.kp.trans (Kept.ofBelow b3)
  have hk5 : Kept (fun k => k = jb ∨ SD k) w w5 := ⟨k5.os.trans hk3.os, k5.tape.trans hk3.tape, k5.output.trans hk3.output, by omega, fun k hk hn => (k5.block k (by omega) (fun e => by
    rcases (h.sd k e).2 with h1 | h1
    · exact hn (Or.inr h1)
    · omega)).trans (hk3.block k hk hn)⟩
  refine ⟨⟨j6.mono fun k hk => ?_, fun k hk => ?_, ?_⟩, hk5.trans (k6.mono fun k e => Or.inl e)⟩
  · rcases hk with h1 | h1
    · rcases h1 with h1 | h1
      · exact Or.inl h1
      · exact Or.inr ⟨by omega, by omega⟩
    · exact Or.inr ⟨by omega, by omega⟩
  · rcases hk with h1 | h1
    · have := h.sd k h1
      exact ⟨by omega, this.2⟩
    · exact ⟨by omega, Or.inr (by omega)⟩
  · have r3 := h.rd.at b3
    have r5 := r3.keepN (w' := w5) (S := fun k => k < w.heap.size ∧ k ≠ jb ∧ ¬ SD k) hsl k5.size fun k hk _ => k5.block k (by omega) (fun e => by
      rcases (h.sd k e).2 with h1 | h1
      · exact hk.2.2 h1
      · omega)
    exact r5.keepN (w' := w6) (S := fun k => k < w.heap.size ∧ k ≠ jb ∧ ¬ SD k) hsl k6.size fun k hk _ => k6.block k (by omega) hk.2.1
end
section
variable (S SD : Nat → Prop) (w : World) (jb b : Nat) (M : DM) (fs ct : Nat) (d : List Int) (vs : Value)
theorem fill_any (h : JK S SD w jb b M fs ct d true vs) (hlt : ∀ k, S k → k < w.heap.size) (L : List Int) (aL : Option Addr) (cL kp : Nat) (hL : Rd w (.slice aL L.length cL) (by8 L)) (hsl : 0 < (by8 L).length → In (fun k => k < w.heap.size ∧ k ≠ jb ∧ ¬ SD k) (.slice aL L.length cL)) (hkp : kp ≤ L.length) (hLl : L.length ≤ (ct - 1) * M.sz) (hc : M.cache.length + 65536 < 1000000) :
    Calls Try.prog 55 #[.pointer (some ⟨jb, 0, none⟩), .slice aL L.length cL, .int .i64 kp] w fun e w' => e = .returned (.bool (fillF M fs L (kp / M.sz) ((L.length + M.sz - 1) / M.sz - kp / M.sz)).1) ∧ (∃ SD2, JK (Nw S w w') SD2 w' jb b (fillF M fs L (kp / M.sz) ((L.length + M.sz - 1) / M.sz - kp / M.sz)).2 fs ct d (fillF M fs L (kp / M.sz) ((L.length + M.sz - 1) / M.sz - kp / M.sz)).1 vs ∧ ∀ k, SD2 k → SD k ∨ w.heap.size ≤ k) ∧ Kept (fun k => k = jb ∨ SD k) w w' := by
  have hb := h.bounds
  have hz16 := h.sz
  have hreg := h.reg
  obtain ⟨c0, c1, c2, c3, c4⟩ := h.cells
  have CZ := hid_of (sizeQ_any h.dk)
  have CN := hid_of (fun m => needed_any S SD (w.drewN m) jb b M fs ct d true vs L.length (by omega) (h.keep ⟨Nat.le_refl _, fun _ _ _ => rfl⟩))
  obtain ⟨z, hz⟩ : ∃ z, z = M.sz := ⟨_, rfl⟩
  rw [← hz] at CZ CN hb hz16 hLl ⊢
  have hnl := need_le (l := L.length) (z := z) (k := kp) (by omega) hkp
  have hneed : ∀ k, k < (L.length + z - 1) / z → k * z < L.length := fun k hk => need_lt (by omega) hk
  have hst1 : kp / z ≤ kp := Nat.div_le_self _ _
  have hn1 : (L.length + z - 1) / z ≤ ct - 1 := by
    have h1 : (L.length + z - 1) / z ≤ ((ct - 1) * z + z - 1) / z := Nat.div_le_div_right (by omega)
    have h2 : ((ct - 1) * z + z - 1) / z = ct - 1 := by
      rw [show (ct - 1) * z + z - 1 = z * (ct - 1) + (z - 1) by rw [Nat.mul_comm]; omega, Nat.mul_add_div (by omega), Nat.div_eq_of_lt (by omega)]
      omega
    omega
  obtain ⟨n, hn⟩ : ∃ n, n = (L.length + z - 1) / z := ⟨_, rfl⟩
  obtain ⟨st, hst⟩ : ∃ st, st = kp / z := ⟨_, rfl⟩
  have d3 : wrap64 ((kp : Int) / (z : Int)) = (st : Int) := by
    rw [← Int.natCast_ediv, ← hst]
    unfold wrap64
    omega
  rw [← hn] at CN hnl hneed hn1 ⊢
  rw [← hst] at hnl hst1 ⊢
  obtain ⟨m, hm⟩ : ∃ m, m = n - st := ⟨_, rfl⟩
  rw [← hm]
  have e0 : ((z : Int) == 0) = false := beq_eq_false_iff_ne.2 (by omega)
  have e1 : ((z : Int) == -1) = false := beq_eq_false_iff_ne.2 (by omega)
  have e2 : ¬ z = 0 := by omega
  have hms : m + st = n := by rw [hm]; exact Nat.sub_add_cancel hnl
  have hct : ct ≤ 65536 := hb.2.2.1
  have hn2 : n ≤ 65536 := Nat.le_trans hn1 (Nat.le_trans (Nat.sub_le _ _) hct)
  have d4 := wrap_sub hms (Nat.le_trans hn2 (by decide))
  have HB := hid_of hb
  have HM := hid_of (show m + st = n ∧ n ≤ ct - 1 ∧ fs + ct ≤ M.secs.length ∧ z = M.sz ∧ 16 ≤ z ∧ m ≤ 65536 from ⟨hms, hn1, hreg.1, hz, hz16, Nat.le_trans (Nat.le.intro hms) hn2⟩)
  have HNE := hid_of hneed
  have HSL := hid_of hsl
  have HLB : Hid (L.length ≤ 268435456) := hid_of (Nat.le_trans hLl hb.1)
  have HH := hid_of h
  have HLT := hid_of hlt
  have HC := hid_of hc
  have hm9 : m ≤ 9223372036854775807 := Nat.le_trans HM.out.2.2.2.2.2 (by decide)
  obtain ⟨l, hl⟩ : ∃ l, l = L.length := ⟨_, rfl⟩
  have HL2 := hid_of hl
  rw [← hl] at hL HSL CN ⊢
  have F0 := hid_of (fun m => (show FL S SD SD w (w.drewN m) jb b M fs ct d vs (.slice aL l cL) L st 0 from ⟨(h.keep (w' := w.drewN m) ⟨Nat.le_refl _, fun _ _ _ => rfl⟩).mono fun k hk => Or.inl hk, fun k hk => ⟨hlt k (h.sd k hk), Or.inl hk⟩, hL.keepN (S := fun k => k < w.heap.size) (fun h0 => hL.inlt h0) (Nat.le_refl _) fun _ _ _ => rfl, ⟨rfl, rfl, rfl, Nat.le_refl _, fun _ _ _ => rfl⟩, rfl⟩))
  clear h hb hz16 hreg hnl hneed hn1 hz hn hst hst1 hm hms hct hn2 hkp hLl hc hlt hsl hL hl c1 c2 c3 c4
  have hdN : ∀ a b : Nat, (w.drewN a).drewN b = w.drewN (a + b) := fun a b => World.drewN_drewN _ _ _
  go_enter Try.func55, Try.ntmps55
  go_wp2_with (first
    | (go_at_call 65; ((with_reducible refine (CZ.out).mono ?_); (rintro e w1 ⟨rfl, ⟨m1, rfl⟩⟩)))
    | (go_at_call 72; ((with_reducible refine (CN.out m1).mono ?_); (rintro e w1 ⟨rfl, ⟨m2, rfl⟩⟩)); rw [hdN]))
  go_loopw [9, 10, 25] (fun v9 v10 iv wr => ∃ (i : Nat) (SDi : Nat → Prop), i ≤ m ∧ iv = .int .i64 i ∧ Hid (FL S SD SDi w wr jb b M fs ct d vs (.slice aL l cL) L st i)) (fun _ _ iv _ => m - (intOf iv).toNat)
  case atStart => exact ⟨0, SD, Nat.zero_le _, rfl, hid_of (F0.out _)⟩
  case round =>
    obtain ⟨i, SDi, hi, rfl, hf⟩ := hrel
    by_cases hlt : i < m
    · have hdd : decide (i < m) = true := decide_eq_true hlt
      have hdi : (i : Int) < (m : Int) := Int.ofNat_lt.2 hlt
      obtain ⟨k, hk⟩ : ∃ k, k = st + i := ⟨_, rfl⟩
      obtain ⟨lo, hlo⟩ : ∃ lo, lo = k * z := ⟨_, rfl⟩
      have hHM := HM.out
      have hkn : k < n := by rw [hk]; have := hHM.1; omega
      have hlol : lo < l := by rw [hlo, HL2.out]; exact HNE.out k hkn
      have hcut := rd_cut hf.out.rd
      have hlc : l ≤ cL := hcut.2.1
      have hl9 : cL ≤ 9223372036854775807 := hcut.2.2
      have hb9 : l ≤ 268435456 := by rw [HL2.out]; exact HLB.out
      have hk9 : k ≤ 65536 := by have := HB.out.2.2.1; have := hHM.2.1; omega
      have a1 := wrap_add hk (by omega)
      have a2 := wrap_mul hlo (by omega)
      have b1 : (lo : Int) ≤ (l : Int) := by omega
      have b2 : (l : Int) ≤ (cL : Int) := by omega
      have b3 : lo < cL := by omega
      obtain ⟨sc, hsc⟩ : ∃ sc, sc = fs + 1 + k := ⟨_, rfl⟩
      obtain ⟨Mi, hMi⟩ : ∃ Mi, Mi = (filF M fs L st i).2 := ⟨_, rfl⟩
      obtain ⟨fsm1, fsm2, fsm3⟩ := filF_same M fs L st i
      have J0 := hf.out.jk
      rw [← hMi] at fsm1 fsm2 fsm3 J0
      have HJ := hid_of J0
      have hSlt := nw_lt HLT.out hf.out.kp.size
      have HKS : Hid (∀ X, Below wr.heap.size wr X → Keeps (Nw S w wr) wr X) := hid_of (fun X hX => ⟨hX.size, fun k hk _ => hX.block k (hSlt k hk)⟩)
      obtain ⟨sec, hsec⟩ : ∃ sec, sec = secL L z k := ⟨_, rfl⟩
      have hsl : sec.length = z := by rw [hsec]; exact secL_len L z k
      obtain ⟨q, hq⟩ : ∃ q, q = (L.drop lo).take z := ⟨_, rfl⟩
      have hql : q.length = min z (L.length - lo) := by rw [hq, List.length_take, List.length_drop]
      have hq1 : q.length ≤ z := by rw [hql]; exact Nat.min_le_left _ _
      have HSP := hid_of (show splice (List.replicate z (Value.int .u8 0)) 0 (by8 q) = by8 sec by rw [splice_sec z q hq1, hsec, secL, ← hlo, ← hq])
      have HQN : Hid ((by8 q).length = Nat.min (l - lo) z) := hid_of (by rw [by8_length, hql, HL2.out]; exact Nat.min_comm _ _)
      have HQF : Hid (0 + (by8 q).length ≤ (List.replicate z (Value.int .u8 0)).length) := hid_of (by rw [by8_length, List.length_replicate]; omega)
      have HPOS : Hid (∀ X, Below wr.heap.size wr X → 0 < (by8 q).length → some (⟨wr.heap.size, 0, none⟩ : Addr) = some ⟨wr.heap.size, 0, none⟩ ∧ ∃ ad, Option.map (fun x => x.add lo) aL = some ad ∧ ∀ (j : Nat) (v : Value), (by8 q)[j]? = some v → X.cell? (ad.add j) = some v) := hid_of (fun X hX h0 => by
        have hr : Rd X (.slice aL L.length cL) (by8 L) := by have h9 := hf.out.rd.at hX; rwa [HL2.out] at h9
        have R := rd_drop hr (off := lo) (by rw [← HL2.out]; omega)
        rw [by8_length] at h0
        obtain ⟨_, ad, e1, e2⟩ := src_cells R (sz := L.length) (by rw [List.length_drop]; omega) (g := wr.heap.size) (by rw [by8_length, List.length_drop]; omega)
        refine ⟨rfl, ad, e1, fun j v hv => e2 j v ?_⟩
        rw [hq, by8, List.map_take, List.getElem?_take] at hv
        split at hv
        · exact hv
        · cases hv)
      have MK : ∀ w : World, (Instr.makeSlice 46 (.int .i64 z) (.int .i64 z)).run Try.prog w = .ok (.slice (some ⟨w.heap.size, 0, none⟩) z z) (w.alloc (.cells (List.replicate z (.int .u8 0)).toArray 5)) := fun w => by
        have h := run_make_row' (P := Try.prog) 46 5 (.int .u8 0) 1 u8E.und u8E.info rfl .i64 .i64 z (by have := HB.out.2.2.2.2; omega) (by have := HB.out.2.2.2.2; omega) w
        rw [show madeCells #[Value.int .u8 0] z = (List.replicate z (.int .u8 0)).toArray by rw [← Array.toList_inj]; simp [toList_madeCells_one]] at h
        exact h
      have HB1 := hid_of (bel_alloc wr (.cells (List.replicate z (.int .u8 0)).toArray 5))
      have HW0 := hid_of (heap_alloc_new wr (.cells (List.replicate z (.int .u8 0)).toArray 5))
      have hz9 : z ≤ 4096 := HB.out.2.2.2.2
      have CSC := hid_of (fun X (hX : Below wr.heap.size wr X) => sector_any (Nw S w wr) SDi X jb b Mi fs ct d true vs k (by omega) (HJ.out.keep (HKS.out X hX)))
      rw [← hsc] at CSC
      have hscl : sc < Mi.secs.length := by rw [fsm1, hsc]; have := hHM.2.1; have := hHM.2.2.1; omega
      have CW := hid_of (fun (X : World) (hX : Below wr.heap.size wr X) (hr : X.heap[wr.heap.size]? = some (.cells (by8 sec).toArray 5 (0, 0))) => IG.write (fun k => wr.heap.size ≤ k) (sc : Int) ⟨by omega, by have := HJ.out.ok.secs; omega⟩ (some ⟨wr.heap.size, 0, none⟩) z z sec (by have := HC.out; have := hHM.2.2.2.2.2; omega) ⟨⟨some ⟨wr.heap.size, 0, none⟩, z, by rw [by8_length, hsl], by rw [by8_length, hsl]; exact Nat.le_refl _, by omega, fun _ => ⟨wr.heap.size, 0, rfl, lt_of_block hr, fun i t ht => by rw [Nat.zero_add]; exact cell_blk hr ht⟩⟩, fun _ a n c' e => by cases e; exact Nat.le_refl _⟩ (fun k hk hs => by have := (hf.out.sd k hs).1; omega) (IG.keep HJ.out.dk ⟨hX.size, fun k hk _ => hX.block k (hf.out.sd k hk).1⟩))
      have HWC : Hid ((writeF Mi sc sec).1 = 0 ∨ (writeF Mi sc sec).1 = 8) := hid_of (write_code hscl (by rw [hsl, fsm2]; exact hHM.2.2.2.1))
      obtain ⟨hws1, hws2⟩ := write_same Mi sc sec
      have hW : writeF (filF M fs L st i).2 (fs + 1 + (st + i) : Nat) (secL L M.sz (st + i)) = writeF Mi sc sec := by rw [← hMi, ← hk, ← hsc, ← hHM.2.2.2.1, ← hsec]
      have HG := hid_of (fun (h0 : (writeF Mi sc sec).1 = 0) => filF_good hf.out.ok (by rw [hW]; exact h0))
      have HGB := hid_of (fun (h0 : (writeF Mi sc sec).1 ≠ 0) => filF_bad hf.out.ok (by rw [hW]; exact h0))
      rw [hW] at HG HGB
      obtain ⟨e1, he1⟩ : ∃ e1, e1 = (writeF Mi sc sec).1 := ⟨_, rfl⟩
      obtain ⟨M1, hM1⟩ : ∃ M1, M1 = (writeF Mi sc sec).2 := ⟨_, rfl⟩
      rw [← he1, ← hM1] at CW HG HGB
      rw [← he1] at HWC
      rw [← hM1] at hws1 hws2
      have HWS := hid_of (And.intro (show M1.secs.length = Mi.secs.length by rw [hws1]) hws2)
      have HLT2 := hid_of hlt
      clear hk hlo hHM hkn hlol hcut hb9 hk9 hsc hMi fsm1 fsm2 fsm3 J0 hSlt hsec hsl hq hql hq1 hscl hws1 hws2 hW he1 hM1 hlt hz9 hlc hl9
      by_cases he : e1 = 0
      · subst he
        have HGG := hid_of (HG.out rfl)
        go_wp2_with (refine wpList_copy_splice rfl _ _ 46 46 rfl 5 Try.underlying46 sizeB (some ⟨wr.heap.size, 0, none⟩) (Option.map (fun x => x.add lo) aL) z z (l - lo) (cL - lo) rfl rfl wr.heap.size 0 (List.replicate z (Value.int .u8 0)) 5 HW0.out (by8 q) HQN.out (HPOS.out _ HB1.out) HQF.out (by8_cells _) wr.heap.size wr HB1.out (Nat.le_refl _) ?_; intro w3 h6 h7; rw [HSP.out] at h6; have C3 : Hid (w3.drew.heap[wr.heap.size]? = some (.cells (by8 sec).toArray 5 (0, 0))) := h6; have BB3 := hid_of (show Below wr.heap.size wr w3.drew from h7.drew); have J4 := hid_of (HJ.out.keep (HKS.out w3.drew h7.drew)); clear h6 h7)
        obtain ⟨y0, y1, y2, y3, y4⟩ := J4.out.cells
        (go_region_with (first
          | (go_at_call 73; ((with_reducible refine (CSC.out w3.drew BB3.out).mono ?_); (rintro e w4 ⟨rfl, rfl⟩)))
          | (go_at_call 27; ((with_reducible refine (CW.out w3.drew BB3.out C3.out).mono ?_); (rintro e w5 ⟨rfl, q1, q2⟩)); have J5 := hid_of (J4.out.disk q1 q2 HWS.out.1 HWS.out.2); have K5 := hid_of q2; obtain ⟨z0, z1, z2, z3, z4⟩ := J5.out.cells; clear q1 q2)
          | (go_at_call 70; ((with_reducible refine (check_any _ _ w5 jb b M1 fs ct d true vs true J5.out).mono ?_); (rintro e w6 ⟨rfl, q1, q2⟩)); have J6 := hid_of q1; have K6 := hid_of q2; obtain ⟨u0, u1, u2, u3, u4⟩ := J6.out.cells; clear q1 q2)))
        all_goals go_wp2
        all_goals go_roundw
        all_goals first
          | (have hnx := hf.out.next HSL.out HH.out.sj HH.out.sd BB3.out K5.out J6.out K6.out
             exact ⟨i + 1, _, HLT2.out, by go_num, hid_of ⟨by rw [HGG.out]; exact hnx.1.1, hnx.1.2.1, hnx.1.2.2, hnx.2, by rw [HGG.out]⟩⟩)
          | (have := HLT2.out; simp [intOf]; omega)
      · have h8 : e1 = 8 := by have := HWC.out; omega
        subst h8
        have HFF : Hid (fillF M fs L st m = (false, M1)) := hid_of (by
          have h9 := HGB.out (by omega) (m - (i + 1))
          rw [show i + 1 + (m - (i + 1)) = m by have := HLT2.out; omega] at h9
          rw [fillF, h9]
          rfl)
        clear he
        go_wp2_with (refine wpList_copy_splice rfl _ _ 46 46 rfl 5 Try.underlying46 sizeB (some ⟨wr.heap.size, 0, none⟩) (Option.map (fun x => x.add lo) aL) z z (l - lo) (cL - lo) rfl rfl wr.heap.size 0 (List.replicate z (Value.int .u8 0)) 5 HW0.out (by8 q) HQN.out (HPOS.out _ HB1.out) HQF.out (by8_cells _) wr.heap.size wr HB1.out (Nat.le_refl _) ?_; intro w3 h6 h7; rw [HSP.out] at h6; have C3 : Hid (w3.drew.heap[wr.heap.size]? = some (.cells (by8 sec).toArray 5 (0, 0))) := h6; have BB3 := hid_of (show Below wr.heap.size wr w3.drew from h7.drew); have J4 := hid_of (HJ.out.keep (HKS.out w3.drew h7.drew)); clear h6 h7)
        obtain ⟨y0, y1, y2, y3, y4⟩ := J4.out.cells
        (go_region_with (first
          | (go_at_call 73; ((with_reducible refine (CSC.out w3.drew BB3.out).mono ?_); (rintro e w4 ⟨rfl, rfl⟩)))
          | (go_at_call 27; ((with_reducible refine (CW.out w3.drew BB3.out C3.out).mono ?_); (rintro e w5 ⟨rfl, q1, q2⟩)); have J5 := hid_of (J4.out.disk q1 q2 HWS.out.1 HWS.out.2); have K5 := hid_of q2; obtain ⟨z0, z1, z2, z3, z4⟩ := J5.out.cells; clear q1 q2)
          | (go_at_call 70; ((with_reducible refine (check_any _ _ w5 jb b M1 fs ct d true vs false J5.out).mono ?_); (rintro e w6 ⟨rfl, q1, q2⟩)); have J6 := hid_of q1; have K6 := hid_of q2; obtain ⟨u0, u1, u2, u3, u4⟩ := J6.out.cells; clear q1 q2)))
        all_goals go_wp2
        all_goals go_ret
        all_goals (
          have hnx := hf.out.next HSL.out HH.out.sj HH.out.sd BB3.out K5.out J6.out K6.out
          rw [HFF.out]
          exact ⟨rfl, ⟨_, hnx.1.1, fun k hk => (hnx.1.2.1 k hk).2⟩, hnx.2⟩)
    · have him : i = m := by omega
      subst him
      clear hi
      have hdd : decide (i < i) = false := decide_eq_false hlt
      have hdi : ¬ (i : Int) < (i : Int) := Int.lt_irrefl _
      obtain ⟨Mi, hMi⟩ : ∃ Mi, Mi = (filF M fs L st i).2 := ⟨_, rfl⟩
      obtain ⟨fsm1, fsm2, fsm3⟩ := filF_same M fs L st i
      have J0 := hf.out.jk
      rw [← hMi] at fsm1 fsm2 fsm3 J0
      have HJ := hid_of J0
      have hSlt := nw_lt HLT.out hf.out.kp.size
      have HJK : Hid (∀ X, Below wr.heap.size wr X → JK (Nw S w wr) SDi X jb b Mi fs ct d true vs) := hid_of (fun X hX => HJ.out.keep ⟨hX.size, fun k hk _ => hX.block k (hSlt k hk)⟩)
      have HBD : Hid (∀ X, Below wr.heap.size wr X → IG.DS SDi X b Mi) := hid_of (fun X hX => (HJK.out X hX).dk)
      have HFE : Hid (fillF M fs L st i = (decide ((syncF Mi).1 = 0), (syncF Mi).2)) := hid_of (by rw [fillF, if_pos hf.out.ok, ← hMi])
      obtain ⟨ss1, ss2⟩ := sync_same Mi
      have hsc := sync_code Mi
      have CS := hid_of (fun (X : World) (hd : IG.DS SDi X b Mi) => IG.sync (by have := HC.out; have := HM.out.2.2.2.2.2; omega) hd)
      obtain ⟨e2, he2⟩ : ∃ e2, e2 = (syncF Mi).1 := ⟨_, rfl⟩
      obtain ⟨M2, hM2⟩ : ∃ M2, M2 = (syncF Mi).2 := ⟨_, rfl⟩
      rw [← he2, ← hM2] at CS HFE
      rw [← he2] at hsc
      rw [← hM2] at ss1 ss2
      have HSS := hid_of (And.intro ss1 ss2)
      have HSC := hid_of hsc
      clear fsm1 fsm2 fsm3 J0 hSlt hMi ss1 ss2 hsc he2 hM2
      by_cases he : e2 = 0
      · subst he
        have HT : Hid ((decide ((0 : Int) = 0), M2) = (true, M2)) := hid_of rfl
        have HFF : Hid (fillF M fs L st i = (true, M2)) := hid_of (HFE.out.trans HT.out)
        obtain ⟨y0, y1, y2, y3, y4⟩ := HJ.out.cells
        (go_wp2_with (first
          | (go_at_call 28; ((with_reducible refine (CS.out wr (HBD.out wr (Below.refl _ _))).mono ?_); (rintro e w5 ⟨rfl, q1, q2⟩)); have J5 := hid_of (JK.disk (HJK.out wr (Below.refl _ _)) q1 q2 HSS.out.1 HSS.out.2); have K5 := hid_of q2; obtain ⟨z0, z1, z2, z3, z4⟩ := J5.out.cells; clear q1 q2)
          | (go_at_call 70; ((with_reducible refine (check_any _ _ w5 jb b M2 fs ct d true vs true J5.out).mono ?_); (rintro e w6 ⟨rfl, q1, q2⟩)); have J6 := hid_of q1; have K6 := hid_of q2; obtain ⟨u0, u1, u2, u3, u4⟩ := J6.out.cells; clear q1 q2)))
        all_goals go_wp2
        all_goals go_ret
        all_goals (
          have hnx := hf.out.next HSL.out HH.out.sj HH.out.sd (Below.refl _ wr) K5.out J6.out K6.out
          rw [HFF.out]
          exact ⟨rfl, ⟨_, hnx.1.1, fun k hk => (hnx.1.2.1 k hk).2⟩, hnx.2⟩)
      · have h8 : e2 = 8 := by have := HSC.out; omega
        subst h8
        have HT : Hid ((decide ((8 : Int) = 0), M2) = (false, M2)) := hid_of rfl
        have HFF : Hid (fillF M fs L st i = (false, M2)) := hid_of (HFE.out.trans HT.out)
        clear he
        obtain ⟨y0, y1, y2, y3, y4⟩ := HJ.out.cells
        (go_wp2_with (first
          | (go_at_call 28; ((with_reducible refine (CS.out wr (HBD.out wr (Below.refl _ _))).mono ?_); (rintro e w5 ⟨rfl, q1, q2⟩)); have J5 := hid_of (JK.disk (HJK.out wr (Below.refl _ _)) q1 q2 HSS.out.1 HSS.out.2); have K5 := hid_of q2; obtain ⟨z0, z1, z2, z3, z4⟩ := J5.out.cells; clear q1 q2)
          | (go_at_call 70; ((with_reducible refine (check_any _ _ w5 jb b M2 fs ct d true vs false J5.out).mono ?_); (rintro e w6 ⟨rfl, q1, q2⟩)); have J6 := hid_of q1; have K6 := hid_of q2; obtain ⟨u0, u1, u2, u3, u4⟩ := J6.out.cells; clear q1 q2)))
        all_goals go_wp2
        all_goals go_ret
        all_goals (
          have hnx := hf.out.next HSL.out HH.out.sj HH.out.sd (Below.refl _ wr) K5.out J6.out K6.out
          rw [HFF.out]
          exact ⟨rfl, ⟨_, hnx.1.1, fun k hk => (hnx.1.2.1 k hk).2⟩, hnx.2⟩)
end
end Go.Proofs.Ytofmijebinnejaa

/- The journal's Reset. Bounds on sizes alone. -/
namespace Go.Proofs.Ytofmijebinnejaa
open Go.RowKit
set_option maxRecDepth 100000
set_option maxHeartbeats 6400000

section
variable (S SD : Nat → Prop) (w : World) (jb b : Nat) (M : DM) (fs ct : Nat) (d : List Int) (vs : Value)
theorem reset_off (wk : Bool) (h : JK S SD w jb b M fs ct d wk vs) (hg : (wk && !M.off) = false) :
    Calls Try.prog 35 #[.pointer (some ⟨jb, 0, none⟩)] w fun e w' => e = .returned (.int .i64 8) ∧ JK S SD w' jb b M fs ct d false vs ∧ Kept (fun k => k = jb) w w' := by
  have CB := hid_of (begin_any S SD w jb b M fs ct d wk vs h)
  rw [hg] at CB
  clear h hg
  go_enter Try.func35, Try.ntmps35
  go_wp2_with (first
    | (go_at_call 52; ((with_reducible refine (CB.out).mono ?_); (rintro e w1 ⟨rfl, q1, q2⟩)); have J1 := hid_of q1; have K1 := hid_of q2; clear q1 q2))
  all_goals go_ret
  all_goals exact ⟨rfl, J1.out, K1.out⟩
theorem reset_on (h : JK S SD w jb b M fs ct d true vs) (hlt : ∀ k, S k → k < w.heap.size) (ho : M.off = false) (hc : M.cache.length < 1000000) :
    Calls Try.prog 35 #[.pointer (some ⟨jb, 0, none⟩)] w fun e w' => e = .returned (.int .i64 (if (comF M fs 0).1 = true then 0 else 8)) ∧ (∃ SD2, JK (Nw S w w') SD2 w' jb b (comF M fs 0).2 fs ct (if (comF M fs 0).1 = true then [] else d) (comF M fs 0).1 (if (comF M fs 0).1 = true then .slice none 0 0 else vs)) ∧ Kept S w w' := by
  have CB := hid_of (begin_any S SD w jb b M fs ct d true vs h)
  rw [ho, show (true && !false) = true from rfl] at CB
  have CC := hid_of (fun (X : World) (hj : JK S SD X jb b M fs ct d true vs) (hs : w.heap.size ≤ X.heap.size) => commit_any S SD X jb b M fs ct d vs hj (fun k hk => Nat.lt_of_lt_of_le (hlt k hk) hs) (.slice none 0 0) [] (World.ownsRow_nil X 0 _ 1) (fun k e => by simp [Value.ownBlock] at e) (Nat.zero_le _) hc)
  have HS := hid_of h.sj
  obtain ⟨R, hR⟩ : ∃ R, R = comF M fs 0 := ⟨_, rfl⟩
  rw [List.length_nil, ← hR] at CC
  rw [← hR]
  obtain ⟨cd, hcd⟩ : ∃ cd, cd = (if R.1 = true then (0 : Int) else 8) := ⟨_, rfl⟩
  obtain ⟨dd, hdd⟩ : ∃ dd, dd = (if R.1 = true then [] else d) := ⟨_, rfl⟩
  obtain ⟨vv, hvv⟩ : ∃ vv, vv = (if R.1 = true then Value.slice none 0 0 else vs) := ⟨_, rfl⟩
  rw [← hcd, ← hdd, ← hvv] at CC ⊢
  clear h hlt ho hc hR hcd hdd hvv
  go_enter Try.func35, Try.ntmps35
  go_wp2_with (first
    | (go_at_call 52; ((with_reducible refine (CB.out).mono ?_); (rintro e w1 ⟨rfl, q1, q2⟩)); have J1 := hid_of q1; have K1 := hid_of q2; clear q1 q2)
    | (go_at_call 56; ((with_reducible refine (CC.out w1 J1.out K1.out.size).mono ?_); (rintro e w2 ⟨rfl, q1, q2⟩)); have J2 := hid_of q1; have K2 := hid_of q2; clear q1 q2))
  all_goals go_ret
  obtain ⟨SD2, hj⟩ := J2.out
  have h1 := K1.out.size
  have h2 := K2.out.size
  refine ⟨rfl, ⟨SD2, hj.mono fun k hk => ?_⟩, (K1.out.mono fun k e => by rw [e]; exact HS.out).trans K2.out⟩
  rcases hk with h3 | h3
  · exact Or.inl h3
  · exact Or.inr ⟨by omega, h3.2⟩
end
end Go.Proofs.Ytofmijebinnejaa

/- The journal's Append: its parts. Bounds on sizes alone. -/
namespace Go.Proofs.Ytofmijebinnejaa
open Go.RowKit
set_option maxRecDepth 100000
set_option maxHeartbeats 6400000

theorem u8I : ∃ i : TypeInfo, Try.prog.info? 5 = some i ∧ i.zero = some (.int .u8 0) ∧ i.size = 1 ∧ i.bytes = 1 := by
  have h : (Try.prog.info? 5).map (fun i => (i.zero, i.size, i.bytes)) = some (some (.int .u8 0), 1, 1) := by kernel_rfl
  cases hi : Try.prog.info? 5 with
  | none => rw [hi] at h; cases h
  | some i =>
    rw [hi] at h
    injection h with h
    injection h with h1 h2
    injection h2 with h2 h3
    exact ⟨i, rfl, h1, h2, h3⟩
/-- append of a whole block of bytes onto an own row; the old value reads as before. -/
theorem wpList_appj {ops : Array Oper} {rest : List Oper} {o : Oper} {a : Act} {Q : Exit → Act → World → Prop} (hgd : o.guard = none) (s x : Operand)
    (ho : o.op = .call { callee := .builtin .append, args := #[s, x], argTypes := #[46, 46] })
    {w : World} {v : Value} {l m : List Int} {g : Nat} (hv : a.eval s = v) (hown : w.ownsRow 0 5 1 v l.length (by8 l)) (hx : a.eval x = .slice (some ⟨g, 0, none⟩) m.length m.length) (hg : w.heap[g]? = some (.cells (by8 m).toArray 5 (0, 0))) (hl : l.length + m.length ≤ 1000000000)
    (h : ∀ (ao : Option Addr) (n cap : Nat) (w' : World), n = (l ++ m).length → w'.ownsRow 0 5 1 (.slice ao n cap) n (by8 (l ++ m)) → w.grownBy w' v.ownBlock → ((Value.slice ao n cap).ownBlock = v.ownBlock ∨ (Value.slice ao n cap).ownBlock = some w.heap.size) → w'.ownsRow 0 5 1 v l.length (by8 l) → wpList Try.prog ops Q rest (a.put o.dst (.slice ao n cap)) w') :
    wpList Try.prog ops Q (o :: rest) a w := by
  obtain ⟨i, hi, hz, h1, h2⟩ := u8I
  refine wpList_two w hgd s x 46 46 ho 0 5 i (.int .u8 0) 1 1 u8E.und hi hz h1 h2 rfl (by decide) v l.length (by8 l) hv hown _ m.length (by8 m) hx (Src.ofSlice w u8E.und ⟨g, 0, none⟩ m.length m.length (by8 m) (by rw [by8_length, Nat.mul_one]) (fun j u hu => by rw [Addr.add_mid, Nat.zero_add]; exact cell_blk hg hu) (by8_cells m)) (by unfold maxLen; omega) (by omega) (Nat.zero_le _) ?_
  intro ao cap w' q1 q2 q3 q4
  refine h ao _ cap w' List.length_append.symm ?_ q2 q3 q4
  rw [show by8 (l ++ m) = by8 l ++ by8 m by simp [by8]]
  exact q1
section
variable {S SD T : Nat → Prop} {w w' : World} {jb b : Nat} {M : DM} {fs ct : Nat} {d : List Int} {wk : Bool} {vs : Value}
theorem JK.grown (h : JK S SD w jb b M fs ct d wk vs) (g : w.grownBy w' vs.ownBlock) (ho : w'.ownsRow 0 5 1 vs d.length (by8 d)) (hlt : ∀ k, S k → k < w.heap.size) : JK S SD w' jb b M fs ct d wk vs :=
  ⟨h.sj, h.sd, h.nj, (g.block jb h.jlt (fun e => (h.si jb e.symm).2.1 rfl)).trans h.box, IG.keep h.dk ⟨g.size, fun q hq hl => g.block q hl (fun e => (h.si q e.symm).2.2 hq)⟩, ho, h.si, h.reg, h.len, h.sz⟩
end
section
variable (S SD T : Nat → Prop) (w : World) (jb b : Nat) (M : DM) (fs ct : Nat) (d : List Int) (vs : Value)
theorem append_off (wk : Bool) (a : Option Addr) (n c : Nat) (h : JK S SD w jb b M fs ct d wk vs) (hg : (wk && !M.off) = false) :
    Calls Try.prog 32 #[.pointer (some ⟨jb, 0, none⟩), .slice a n c] w fun e w' => e = .returned (.int .i64 8) ∧ JK S SD w' jb b M fs ct d false vs ∧ Kept (fun k => k = jb) w w' := by
  have CB := hid_of (begin_any S SD w jb b M fs ct d wk vs h)
  rw [hg] at CB
  clear h hg
  go_enter Try.func32, Try.ntmps32
  go_wp2_with (first
    | (go_at_call 52; ((with_reducible refine (CB.out).mono ?_); (rintro e w1 ⟨rfl, q1, q2⟩)); have J1 := hid_of q1; have K1 := hid_of q2; clear q1 q2))
  all_goals go_ret
  all_goals exact ⟨rfl, J1.out, K1.out⟩
/-- No batch, or a batch that does not fit. -/
theorem append_small (R : List (List Int)) (a : Option Addr) (n c : Nat) (h : JK S SD w jb b M fs ct d true vs) (hlt : ∀ k, S k → k < w.heap.size) (ho : M.off = false) (hT : ∀ k, T k → k < w.heap.size ∧ k ≠ jb) (hR : RB T w (.slice a n c) R) (hl : (streamF R).length ≤ 1000000000) (hno : ¬ (d.length + (streamF R).length ≤ (ct - 1) * M.sz) ∨ R = []) :
    Calls Try.prog 32 #[.pointer (some ⟨jb, 0, none⟩), .slice a n c] w fun e w' => e = .returned (.int .i64 (if d.length + (streamF R).length ≤ (ct - 1) * M.sz then 0 else 7)) ∧ JK S SD w' jb b M fs ct d true vs ∧ Kept S w w' := by
  have CB := hid_of (begin_any S SD w jb b M fs ct d true vs h)
  rw [ho, show (true && !false) = true from rfl] at CB
  have CF := hid_of (fun (X : World) (hj : JK S SD X jb b M fs ct d true vs) (hk : Kept (fun k => k = jb) w X) => fits_any S SD X jb b M fs ct d true vs R hl a n c ((hR.keep ⟨hk.size, fun k hq _ => hk.block k (hT k hq).1 (hT k hq).2⟩).mono fun k hq => Nat.lt_of_lt_of_le (hT k hq).1 hk.size) hj)
  have HS := hid_of h.sj
  have HLT := hid_of hlt
  have hn := hR.len.1
  have hle := h.len
  by_cases hf : d.length + (streamF R).length ≤ (ct - 1) * M.sz
  · have hr : R = [] := by
      rcases hno with h1 | h1
      · exact absurd hf h1
      · exact h1
    have hn0 : n = 0 := by rw [hn, hr]; rfl
    subst hn0
    rw [decide_eq_true hf] at CF
    rw [if_pos hf]
    clear h hlt ho hT hR hl hno hf hr hle hn
    go_enter Try.func32, Try.ntmps32
    go_wp2_with (first
      | (go_at_call 52; ((with_reducible refine (CB.out).mono ?_); (rintro e w1 ⟨rfl, q1, q2⟩)); have J1 := hid_of q1; have K1 := hid_of q2; clear q1 q2)
      | (go_at_call 53; ((with_reducible refine (CF.out w1 J1.out K1.out).mono ?_); (rintro e w2 ⟨rfl, q1⟩)); have B2 := hid_of q1; clear q1))
    all_goals go_ret
    all_goals exact ⟨rfl, J1.out.keep ⟨B2.out.size, fun k _ hk => B2.out.block k hk⟩, (K1.out.mono fun k e => by rw [e]; exact HS.out).trans (Kept.ofBelow B2.out)⟩
  · rw [decide_eq_false hf] at CF
    rw [if_neg hf]
    clear h hlt ho hT hR hl hno hf hle hn
    go_enter Try.func32, Try.ntmps32
    go_wp2_with (first
      | (go_at_call 52; ((with_reducible refine (CB.out).mono ?_); (rintro e w1 ⟨rfl, q1, q2⟩)); have J1 := hid_of q1; have K1 := hid_of q2; clear q1 q2)
      | (go_at_call 53; ((with_reducible refine (CF.out w1 J1.out K1.out).mono ?_); (rintro e w2 ⟨rfl, q1⟩)); have B2 := hid_of q1; clear q1))
    all_goals go_ret
    all_goals exact ⟨rfl, J1.out.keep ⟨B2.out.size, fun k _ hk => B2.out.block k hk⟩, (K1.out.mono fun k e => by rw [e]; exact HS.out).trans (Kept.ofBelow B2.out)⟩
end
end Go.Proofs.Ytofmijebinnejaa
