/- Texts in one: CkL6, CkStp, CkL4, CkLw6, CkLw4. -/
import Derived.Test.YtlffiebnieakjaaDoorMgEF
import Derived.Lib.SmallJoins
import Derived.Deep.Strs
import Derived.Deep.RegionHeldLaw
set_option linter.unusedVariables false
set_option linter.unusedSimpArgs false
/- The law Opens. Bounds on sizes alone. -/
namespace Go.Proofs.YtlffiebnieakjaaDoor
open Go.RowKit
set_option maxRecDepth 100000
set_option maxHeartbeats 6400000

section
variable {B : Nat} {T : Nat → Prop} {b : Nat} {M : DM} {w : World}
theorem open_arg1 (f ct : Int) (hf : f < 0) : Calls Tryd.prog 14 #[.pointer (some ⟨b, 0, none⟩), .int .i64 f, .int .i64 ct] w fun e w' => e = .returned (.tuple #[.pointer none, .int .i64 1]) ∧ Below w.heap.size w w' := by
  have d1 : decide (f < 0) = true := decide_eq_true hf
  go_enter Tryd.func14, Tryd.ntmps14
  go_wp2
  go_ret2
  exact ⟨rfl, Below.refl _ _⟩
theorem open_arg2 (f ct : Int) (hf : ¬ f < 0) (hc : ct < 4) : Calls Tryd.prog 14 #[.pointer (some ⟨b, 0, none⟩), .int .i64 f, .int .i64 ct] w fun e w' => e = .returned (.tuple #[.pointer none, .int .i64 1]) ∧ Below w.heap.size w w' := by
  have d1 : decide (f < 0) = false := decide_eq_false hf
  have d2 : decide (ct < 4) = true := decide_eq_true hc
  go_enter Tryd.func14, Tryd.ntmps14
  go_wp2
  go_ret2
  exact ⟨rfl, Below.refl _ _⟩
theorem open_arg3 (h : DR B T w b M) (f ct : Int) (hf : ¬ f < 0) (hf9 : f ≤ 9223372036854775807) (hc : ¬ ct < 4) (hl : (M.secs.length : Int) - f < ct) : Calls Tryd.prog 14 #[.pointer (some ⟨b, 0, none⟩), .int .i64 f, .int .i64 ct] w fun e w' => e = .returned (.tuple #[.pointer none, .int .i64 1]) ∧ Below w.heap.size w w' := by
  have hsl := h.ok.secs
  have CN := hid_of h.sectors
  obtain ⟨L, hL⟩ : ∃ L, L = M.secs.length := ⟨_, rfl⟩
  rw [← hL] at CN hl hsl
  have d1 : decide (f < 0) = false := decide_eq_false hf
  have d2 : decide (ct < 4) = false := decide_eq_false hc
  have l3 : IntKind.i64.wrap ((L : Int) - f) = (L : Int) - f := IntWalk.i64_in _ (by omega)
  have d3 : decide ((L : Int) - f < ct) = true := decide_eq_true hl
  clear h hL
  go_enter Tryd.func14, Tryd.ntmps14
  go_wp2_with (go_at_call 12; ((with_reducible refine (CN.out).mono ?_); (rintro e w1 ⟨rfl, q1⟩)); have B1 := hid_of q1; clear q1)
  go_ret2
  exact ⟨rfl, B1.out⟩
theorem open_arg4 (h : DR B T w b M) (f ct : Int) (hf : ¬ f < 0) (hf9 : f ≤ 9223372036854775807) (hc : ¬ ct < 4) (hl : ¬ (M.secs.length : Int) - f < ct) (hz : M.sz < 64) : Calls Tryd.prog 14 #[.pointer (some ⟨b, 0, none⟩), .int .i64 f, .int .i64 ct] w fun e w' => e = .returned (.tuple #[.pointer none, .int .i64 1]) ∧ Below w.heap.size w w' := by
  have hsl := h.ok.secs
  have CN := hid_of h.sectors
  have CZ := hid_of (fun (X : World) (hX : Below w.heap.size w X) => (h.bel0 hX).size)
  obtain ⟨L, hL⟩ : ∃ L, L = M.secs.length := ⟨_, rfl⟩
  obtain ⟨z, hz2⟩ : ∃ z, z = M.sz := ⟨_, rfl⟩
  rw [← hL] at CN hl hsl
  rw [← hz2] at CZ hz
  have d1 : decide (f < 0) = false := decide_eq_false hf
  have d2 : decide (ct < 4) = false := decide_eq_false hc
  have l3 : IntKind.i64.wrap ((L : Int) - f) = (L : Int) - f := IntWalk.i64_in _ (by omega)
  have d3 : decide ((L : Int) - f < ct) = false := decide_eq_false hl
  have d4 : (z : Int) < 64 := by omega
  have d4b : decide ((z : Int) < 64) = true := decide_eq_true d4
  clear h hL hz2
  go_enter Tryd.func14, Tryd.ntmps14
  go_wp2_with (first
    | (go_at_call 12; ((with_reducible refine (CN.out).mono ?_); (rintro e w1 ⟨rfl, q1⟩)); have B1 := hid_of q1; clear q1)
    | (go_at_call 19; ((with_reducible refine (CZ.out w1 B1.out).mono ?_); (rintro e w2 ⟨rfl, q1⟩)); have B2 := hid_of (B1.out.trans (q1.mono B1.out.size)); clear q1))
  go_ret2
  exact ⟨rfl, B2.out⟩
theorem open_arg (h : DR B T w b M) (f ct : Int) (hf9 : f ≤ 9223372036854775807) (hc : f < 0 ∨ ct < 4 ∨ (M.secs.length : Int) - f < ct ∨ M.sz < 64) : Calls Tryd.prog 14 #[.pointer (some ⟨b, 0, none⟩), .int .i64 f, .int .i64 ct] w fun e w' => e = .returned (.tuple #[.pointer none, .int .i64 1]) ∧ Below w.heap.size w w' := by
  by_cases h1 : f < 0
  · exact open_arg1 f ct h1
  by_cases h2 : ct < 4
  · exact open_arg2 f ct h1 h2
  by_cases h3 : (M.secs.length : Int) - f < ct
  · exact open_arg3 h f ct h1 hf9 h2 h3
  · exact open_arg4 h f ct h1 hf9 h2 h3 (by omega)
theorem open_off (h : DR B T w b M) (f ct : Int) (hf : ¬ f < 0) (hf9 : f ≤ 9223372036854775807) (hc : ¬ ct < 4) (hl : ¬ (M.secs.length : Int) - f < ct) (hz : ¬ M.sz < 64) (ho : M.off = true) : Calls Tryd.prog 14 #[.pointer (some ⟨b, 0, none⟩), .int .i64 f, .int .i64 ct] w fun e w' => e = .returned (.tuple #[.pointer none, .int .i64 8]) ∧ Below w.heap.size w w' := by
  have hsl := h.ok.secs
  have CN := hid_of h.sectors
  have CZ := hid_of (fun (X : World) (hX : Below w.heap.size w X) => (h.bel0 hX).size)
  have CD := hid_of (fun (X : World) (hX : Below w.heap.size w X) => show Calls Tryd.prog 27 #[.pointer (some ⟨b, 0, none⟩)] X (fun e w' => e = .returned (.bool true) ∧ Below X.heap.size X w') from by rw [← ho]; exact (h.bel0 hX).down)
  obtain ⟨L, hL⟩ : ∃ L, L = M.secs.length := ⟨_, rfl⟩
  obtain ⟨z, hz2⟩ : ∃ z, z = M.sz := ⟨_, rfl⟩
  rw [← hL] at CN hl hsl
  rw [← hz2] at CZ hz
  have d1 : decide (f < 0) = false := decide_eq_false hf
  have d2 : decide (ct < 4) = false := decide_eq_false hc
  have l3 : IntKind.i64.wrap ((L : Int) - f) = (L : Int) - f := IntWalk.i64_in _ (by omega)
  have d3 : decide ((L : Int) - f < ct) = false := decide_eq_false hl
  have d4 : ¬ (z : Int) < 64 := by omega
  have d4b : decide ((z : Int) < 64) = false := decide_eq_false d4
  clear h hL hz2 ho
  go_enter Tryd.func14, Tryd.ntmps14
  go_wp2_with (first
    | (go_at_call 12; ((with_reducible refine (CN.out).mono ?_); (rintro e w1 ⟨rfl, q1⟩)); have B1 := hid_of q1; clear q1)
    | (go_at_call 19; ((with_reducible refine (CZ.out w1 B1.out).mono ?_); (rintro e w2 ⟨rfl, q1⟩)); have B2 := hid_of (B1.out.trans (q1.mono B1.out.size)); clear q1)
    | (go_at_call 27; ((with_reducible refine (CD.out w2 B2.out).mono ?_); (rintro e w3 ⟨rfl, q1⟩)); have B3 := hid_of (B2.out.trans (q1.mono B2.out.size)); clear q1))
  go_ret2
  exact ⟨rfl, B3.out⟩
end
end Go.Proofs.YtlffiebnieakjaaDoor

/- Checkpoint: steps of a run that came in. No condition. -/
namespace Go.Proofs.YtlffiebnieakjaaDoor
open Go.RowKit Go.ChangeShapes Go.WideShapes Go.ChangeAt
set_option maxRecDepth 100000

/-- A step as it came in. -/
structure StX where
  kd : Int
  bv : Value
  bl : List Int
  nn : Int
  kv : Value
  kl : List Bool
/-- What a step's parts read as: all of it in blocks below B. -/
structure StX.ok (B : Nat) (w : World) (x : StX) : Prop where
  kd : R64 x.kd
  nn : R64 x.nn
  cb : CR (fun k => k < B) w x.bv x.bl
  by_ : Byt x.bl
  kp : Rd w x.kv (bls x.kl) ∧ (0 < (bls x.kl).length → In (fun k => k < B) x.kv)
def StX.cells (x : StX) : List Value := [.int .i64 x.kd, x.bv, .int .i64 x.nn, x.kv]
/-- The steps that came in. -/
def StsIn (B : Nat) (w : World) (a : Option Addr) (len cap : Nat) (l : List StX) : Prop := l.length = len ∧ len ≤ cap ∧ cap ≤ 9223372036854775807 ∧ ∀ i x, l[i]? = some x → ∃ g o, a = some ⟨g, o, none⟩ ∧ g < B ∧ (∀ j, j < 4 → w.cell? ⟨g, o + i * 4 + j, none⟩ = x.cells[j]?) ∧ x.ok B w
theorem StX.ok.keep {B : Nat} {w w' : World} {x : StX} (h : x.ok B w) (hb : Below B w w') : x.ok B w' := ⟨h.kd, h.nn, h.cb.keep ⟨hb.size, fun k hk _ => hb.block k hk⟩, h.by_, h.kp.1.keepN h.kp.2 hb.size fun k hk _ => hb.block k hk, h.kp.2⟩
theorem StsIn.get {B : Nat} {w : World} {a : Option Addr} {len cap : Nat} {l : List StX} (h : StsIn B w a len cap l) {i : Nat} (hi : i < len) : ∃ (g o : Nat) (x : StX), l[i]? = some x ∧ a = some ⟨g, o, none⟩ ∧ ∀ X, Below B w X → X.cell? ⟨g, o + i * 4, none⟩ = some (.int .i64 x.kd) ∧ X.cell? ⟨g, o + i * 4 + 1, none⟩ = some x.bv ∧ X.cell? ⟨g, o + i * 4 + 2, none⟩ = some (.int .i64 x.nn) ∧ X.cell? ⟨g, o + i * 4 + 3, none⟩ = some x.kv ∧ x.ok B X := by
  obtain ⟨h1, h2, h3, h4⟩ := h
  obtain ⟨x, hx⟩ : ∃ x, l[i]? = some x := ⟨_, List.getElem?_eq_getElem (by omega)⟩
  obtain ⟨g, o, e, hg, hc, ho⟩ := h4 i x hx
  refine ⟨g, o, x, hx, e, fun X hX => ⟨?_, ?_, ?_, ?_, ho.keep hX⟩⟩
  · exact (hX.cell (p := ⟨g, o + i * 4, none⟩) hg).trans (hc 0 (by omega))
  · exact (hX.cell (p := ⟨g, o + i * 4 + 1, none⟩) hg).trans (hc 1 (by omega))
  · exact (hX.cell (p := ⟨g, o + i * 4 + 2, none⟩) hg).trans (hc 2 (by omega))
  · exact (hX.cell (p := ⟨g, o + i * 4 + 3, none⟩) hg).trans (hc 3 (by omega))
theorem wf_s64 {n : Int} (h : (Lit.int .i64 n).wf = true) : R64 n := by
  simpa [Lit.wf, IntKind.min, IntKind.max, IntKind.signed, IntKind.bits] using h
theorem Tryd.cellsStp : Tryd.prog.cellsOf 54 = 4 := by kernel_rfl
theorem Tryd.cellsIntS : Tryd.prog.cellsOf 3 = 1 := by kernel_rfl
theorem Tryd.cellsBlsS : Tryd.prog.cellsOf 52 = 1 := by kernel_rfl
theorem plain_addS (a o j : Nat) : (⟨a, o, none⟩ : Addr).add j = ⟨a, o + j, none⟩ := by unfold Addr.add; split <;> simp_all
theorem four_ofS {α : Type} : ∀ {l : List α}, l.length = 4 → ∃ a b c d, l = [a, b, c, d]
  | [a, b, c, d], _ => ⟨a, b, c, d, rfl⟩
theorem open_step {H : Type} {enc : TypeId × Value → H} {w : World} {n : Nat} {cs : List Value} {y : DataW H × List MemPlace} (h : DataW.trod enc Tryd.prog w 0 (fun _ => true) true n 54 cs = some y) :
    ∃ x : StX, cs = x.cells ∧ x.ok w.heap.size w := by
  obtain ⟨y0, y1, y2, y3, m, _, hl, h0, h1, h2, h3⟩ := Go.Joins.trod_struct4 Tryd.underlying54 h
  rw [Tryd.cellsStp] at hl
  obtain ⟨v0, v1, v2, v3, rfl⟩ := four_ofS hl
  clear hl
  simp only [Tryd.cellsIntS, Tryd.cellsBysJ, Tryd.cellsBlsS, List.drop_zero, List.drop_succ_cons, List.take_succ_cons, List.take_zero] at h0 h1 h2 h3
  obtain ⟨k0, e0, _, q0⟩ := DataW.trod_int Tryd.underlying3 h0
  obtain ⟨lb, r1, r2⟩ := open_by8 h1
  obtain ⟨k2, e2, _, q2⟩ := DataW.trod_int Tryd.underlying3 h2
  obtain ⟨lk, r3⟩ := open_bls h3
  simp only [List.cons.injEq, and_true] at e0 e2
  subst e0 e2
  exact ⟨⟨k0, v1, lb, k2, v3, lk⟩, rfl, ⟨wf_s64 q0, wf_s64 q2, ⟨r1, fun h => rd_in r1 (by rwa [by8_length])⟩, r2, r3, fun h => rd_in r3 h⟩⟩
theorem open_steps {H : Type} {enc : TypeId × Value → H} {w : World} {fuel len cap : Nat} {a : Option Addr} {x : DataW H × List MemPlace} (h : DataW.trod enc Tryd.prog w 0 (fun _ => true) true fuel 51 [.slice a len cap] = some x) :
    ∃ l, StsIn w.heap.size w a len cap l := by
  rcases Go.Deep.open_slice Tryd.underlying51 h with ⟨e, _⟩ | ⟨ad, len', cap', m, n, D, Pl, e, _, hlc, hcm, hm, _, hel⟩
  · simp only [List.cons.injEq, Value.slice.injEq, and_true] at e
    obtain ⟨rfl, rfl, rfl⟩ := e
    exact ⟨[], rfl, Nat.le_refl _, by omega, fun i x h => by simp at h⟩
  · simp only [List.cons.injEq, Value.slice.injEq, and_true] at e
    obtain ⟨rfl, rfl, rfl⟩ := e
    simp only [if_true] at hm
    subst hm
    unfold maxLen at hcm
    by_cases h0 : len = 0
    · subst h0
      exact ⟨[], rfl, hlc, by omega, fun i x h => by simp at h⟩
    · have hex : ∀ i, i < len → ∃ y : StX, (∀ j, j < 4 → w.cell? ((ad.add (i * 4)).add j) = y.cells[j]?) ∧ y.ok w.heap.size w := by
        intro i hi
        obtain ⟨cs', h1, h2⟩ := hel i (by omega)
        rw [Tryd.cellsStp] at h1
        obtain ⟨y, hy, r⟩ := open_step h2
        obtain ⟨_, _, hc⟩ := World.cells?_some h1
        exact ⟨y, fun j hj => by rw [hc j hj, hy], r⟩
      have hsp : ad.spot = none := by
        obtain ⟨y, hc, _⟩ := hex 0 (by omega)
        have := hc 0 (by omega)
        simpa [Addr.add] using World.cell?_spot (w := w) (a := (ad.add (0 * 4)).add 0) this
      obtain ⟨b, o, sp⟩ := ad
      simp only at hsp
      subst hsp
      haveI : Inhabited StX := ⟨⟨0, .slice none 0 0, [], 0, .slice none 0 0, []⟩⟩
      obtain ⟨f, hf⟩ := Go.Deep.choose_lt hex
      have hget : ∀ i x, ((List.range len).map f)[i]? = some x → i < len ∧ x = f i := by
        intro i x hx
        simp only [List.getElem?_map] at hx
        rcases hr : (List.range len)[i]? with _ | q
        · rw [hr] at hx; cases hx
        · rw [hr] at hx
          obtain ⟨h1, h2⟩ := List.getElem?_eq_some_iff.1 hr
          simp at h1 h2
          subst h2
          simp at hx
          exact ⟨h1, hx.symm⟩
      have hcell : ∀ i j, i < len → j < 4 → w.cell? ⟨b, o + i * 4 + j, none⟩ = (f i).cells[j]? := by
        intro i j hi hj
        have := (hf i hi).1 j hj
        rwa [plain_addS, plain_addS] at this
      refine ⟨(List.range len).map f, by simp, by omega, by omega, fun i x hx => ?_⟩
      obtain ⟨h1, rfl⟩ := hget i x hx
      exact ⟨b, o, rfl, World.block_lt_of_cell? w _ (hcell 0 0 (by omega) (by omega)), fun j hj => hcell i j h1 hj, (hf i h1).2⟩
end Go.Proofs.YtlffiebnieakjaaDoor

/- The law Survives: what a step of the run gives. Bounds on sizes alone. -/
namespace Go.Proofs.YtlffiebnieakjaaDoor
open Go.RowKit
set_option maxRecDepth 100000
set_option maxHeartbeats 12800000

section
variable {B : Nat} {T : Nat → Prop} {w w' : World} {cb b : Nat} {M : DM} {f n i g : Nat} {c l : List Int}
theorem DV.bel0 (h : DV B T w cb b M f n i c g l) (hb : Below w.heap.size w w') : DV B T w' cb b M f n i c g l := ⟨h.st.bel0 hb, h.off, h.rng, h.cch, h.nw, h.reg, h.sz⟩
theorem DV.bel (h : DV B T w cb b M f n i c g l) (hb : Below w.heap.size w w') : DV B (Tn T w w') w' cb b M f n i c g l := ⟨h.st.bel hb, h.off, h.rng, h.cch, h.nw, h.reg, h.sz⟩
theorem DV.fail (h : DV B T w cb b M f n i c g l) (t : TR B T w) (m : Int) (hm : R64 m) :
    Calls Tryd.prog 25 #[.pointer (some ⟨b, 0, none⟩), .int .i64 m] w fun e w' => e = .returned (.tuple #[]) ∧ DV B T w' cb b M f n i c g l ∧ Below B w w' ∧ Keeps T w w' := by
  have h9 := h.st.fail t m hm
  rw [show failF M m = M by unfold failF; rw [if_pos h.off]] at h9
  exact h9.mono fun e w' ⟨q1, q2, q3, q4⟩ => ⟨q1, ⟨q2, h.off, h.rng, h.cch, h.nw, h.reg, h.sz⟩, q3, q4⟩
theorem DV.save {bo : Option Addr} {bn bc : Nat} (h : DV B T w cb b M f n i c g l) (t : TR B T w) :
    Calls Tryd.prog 22 #[.pointer (some ⟨cb, 0, none⟩), .slice bo bn bc] w fun e w' => e = .returned (.int .i64 8) ∧ DV B T w' cb b M f n i c g l ∧ Below B w w' ∧ Keeps T w w' :=
  (save_dead h.st t).mono fun e w' ⟨q1, q2, q3, q4⟩ => ⟨q1, ⟨q2, h.off, h.rng, h.cch, h.nw, h.reg, h.sz⟩, q3, q4⟩
end
/-- The run between two steps: the store lives, or its save was interrupted. -/
structure RunV (B : Nat) (T : Nat → Prop) (X w : World) (cb b n L z : Nat) (now nxt : Value) (torn : Bool) : Prop where
  tr : TR B T X
  bel : Below B w X
  run : ∃ M i g c, M.sz = z ∧ M.secs.length = L ∧ CR T X now c ∧ Byt c ∧ ((torn = false ∧ LV B T X cb b M 1 n i c g) ∨ (torn = true ∧ ∃ l, CR T X nxt l ∧ Byt l ∧ DV B T X cb b M 1 n i c g l))
/-- A slot's value as it is kept. -/
theorem cr_tn {T : Nat → Prop} {w w' : World} {v : Value} {l : List Int} (h : CR T w v l) (hb : Below w.heap.size w w') : CR (Tn T w w') w' v l := (h.keep (keeps_belw hb)).mono fun k hk => Or.inl hk
theorem box_kept {T : Nat → Prop} {w w' : World} {b j : Nat} {v : Value} (k : Keeps T w w') (ht : T b) (hl : b < w.heap.size) (h : w.cell? ⟨b, j, none⟩ = some v) : w'.cell? ⟨b, j, none⟩ = some v := (World.cell?_of_block (w := w) (k.2 b ht hl)).trans h
section
variable {B : Nat} {T : Nat → Prop} {X X' w : World} {cb b n L z : Nat} {now nxt : Value} {torn : Bool}
theorem RunV.bel0 (h : RunV B T X w cb b n L z now nxt torn) (hb : Below X.heap.size X X') : RunV B T X' w cb b n L z now nxt torn := by
  obtain ⟨t, b0, M, i, g, c, e1, e2, r, bc, hs⟩ := h
  refine ⟨t.same hb.size, b0.trans (hb.mono t.hB), M, i, g, c, e1, e2, r.keep (keeps_belw hb), bc, ?_⟩
  rcases hs with ⟨q, lv⟩ | ⟨q, l, rn, bl, dv⟩
  · exact Or.inl ⟨q, lv.bel0 hb⟩
  · exact Or.inr ⟨q, l, rn.keep (keeps_belw hb), bl, dv.bel0 hb⟩
theorem RunV.next (h : RunV B T X w cb b n L z now nxt torn) (hb : Below X.heap.size X X') : RunV B (Tn T X X') X' w cb b n L z now nxt torn := by
  obtain ⟨t, b0, M, i, g, c, e1, e2, r, bc, hs⟩ := h
  refine ⟨t.next hb.size, b0.trans (hb.mono t.hB), M, i, g, c, e1, e2, cr_tn r hb, bc, ?_⟩
  rcases hs with ⟨q, lv⟩ | ⟨q, l, rn, bl, dv⟩
  · exact Or.inl ⟨q, lv.bel hb⟩
  · exact Or.inr ⟨q, l, cr_tn rn hb, bl, dv.bel hb⟩
theorem RunV.room (h : RunV B T X w cb b n L z now nxt torn) : Calls Tryd.prog 18 #[.pointer (some ⟨cb, 0, none⟩)] X fun e w' => e = .returned (.int .i64 ((n - 1) * z : Nat)) ∧ Below X.heap.size X w' := by
  obtain ⟨t, b0, M, i, g, c, rfl, e2, r, bc, hs⟩ := h
  rcases hs with ⟨q, lv⟩ | ⟨q, l, rn, bl, dv⟩
  · exact lv.st.room
  · exact dv.st.room
theorem RunV.save {bo : Option Addr} {bn bc : Nat} {l : List Int} (h : RunV B T X w cb b n L z now nxt torn) (hin : CR T X (.slice bo bn bc) l) (hlb : Byt l) (hG : Sh.Glob X) (hB2 : 2 ≤ B) (hfn : 1 + n ≤ 60000) :
    Calls Tryd.prog 22 #[.pointer (some ⟨cb, 0, none⟩), .slice bo bn bc] X fun e w' => Keeps T X w' ∧
      ((e = .returned (.int .i64 6) ∧ torn = false ∧ RunV B T w' w cb b n L z now nxt false) ∨
       (e = .returned (.int .i64 0) ∧ RunV B T w' w cb b n L z (.slice bo bn bc) nxt false) ∨
       (e = .returned (.int .i64 8) ∧ torn = false ∧ l.length ≤ (n - 1) * z ∧ RunV B T w' w cb b n L z now (.slice bo bn bc) true) ∨
       (e = .returned (.int .i64 8) ∧ torn = true ∧ RunV B T w' w cb b n L z now nxt true)) := by
  obtain ⟨t, b0, M, i, g, c, e1, e2, r, bc', hs⟩ := h
  rcases hs with ⟨rfl, lv⟩ | ⟨rfl, l2, rn, bl2, dv⟩
  · by_cases hl : (n - 1) * M.sz < l.length ∨ g = maxG
    · exact (lv.save_lim t hin hl).mono fun e w' ⟨q1, q2, q3, q4⟩ => ⟨q4, Or.inl ⟨q1, rfl, t.same q4.1, b0.trans q3, M, i, g, c, e1, e2, r.keep q4, bc', Or.inl ⟨rfl, q2⟩⟩⟩
    · have hl1 : l.length ≤ (n - 1) * M.sz := by
        rcases Nat.lt_or_ge ((n - 1) * M.sz) l.length with h9 | h9
        · exact absurd (Or.inl h9) hl
        · exact h9
      have hgm : g < maxG := by
        rcases Nat.lt_or_ge g maxG with h9 | h9
        · exact h9
        · exact absurd (Or.inr (Nat.le_antisymm lv.gb h9)) hl
      have hse : (saveF (headK Sh.digest M.sz l (g + 1)) M (tgF 1 n i) l).2.secs.length = L := by rw [saveF, secs_run]; exact e2
      have hsz : (saveF (headK Sh.digest M.sz l (g + 1)) M (tgF 1 n i) l).2.sz = z := (save_sz _ _ _ _).trans e1
      by_cases hok : (saveF (headK Sh.digest M.sz l (g + 1)) M (tgF 1 n i) l).1 = true
      · exact (lv.save_ok t hin hlb hl1 hgm hG hB2 hfn hok).mono fun e w' ⟨q1, q2, q3, q4⟩ => ⟨q4, Or.inr (Or.inl ⟨q1, t.same q4.1, b0.trans q3, _, 1 - i, g + 1, l, hsz, hse, hin.keep q4, hlb, Or.inl ⟨rfl, q2⟩⟩)⟩
      · exact (lv.save_bad t hin hlb hl1 hgm hG hB2 hfn (by simpa using hok)).mono fun e w' ⟨q1, q2, q3, q4⟩ => ⟨q4, Or.inr (Or.inr (Or.inl ⟨q1, rfl, by rw [← e1]; exact hl1, t.same q4.1, b0.trans q3, _, i, g, c, hsz, hse, r.keep q4, bc', Or.inr ⟨rfl, l, hin.keep q4, hlb, q2⟩⟩))⟩
  · exact (dv.save t).mono fun e w' ⟨q1, q2, q3, q4⟩ => ⟨q4, Or.inr (Or.inr (Or.inr ⟨q1, rfl, t.same q4.1, b0.trans q3, M, i, g, c, e1, e2, r.keep q4, bc', Or.inr ⟨rfl, l2, rn.keep q4, bl2, q2⟩⟩))⟩
theorem RunV.fail (h : RunV B T X w cb b n L z now nxt torn) (m : Int) (hm : R64 m) :
    Calls Tryd.prog 25 #[.pointer (some ⟨b, 0, none⟩), .int .i64 m] X fun e w' => e = .returned (.tuple #[]) ∧ RunV B T w' w cb b n L z now nxt torn := by
  obtain ⟨t, b0, M, i, g, c, e1, e2, r, bc', hs⟩ := h
  rcases hs with ⟨q, lv⟩ | ⟨q, l2, rn, bl2, dv⟩
  · exact (lv.fail t m hm).mono fun e w' ⟨q1, q2, q3, q4⟩ => ⟨q1, t.same q4.1, b0.trans q3, failF M m, i, g, c, by unfold failF; split <;> exact e1, by unfold failF; split <;> exact e2, r.keep q4, bc', Or.inl ⟨q, q2⟩⟩
  · exact (dv.fail t m hm).mono fun e w' ⟨q1, q2, q3, q4⟩ => ⟨q1, t.same q4.1, b0.trans q3, M, i, g, c, e1, e2, r.keep q4, bc', Or.inr ⟨q, l2, rn.keep q4, bl2, q2⟩⟩
end
theorem strl_inj {a b : ByteArray} (h : a.toList = b.toList) : a = b := by
  rw [ByteArray.toList_eq, ByteArray.toList_eq] at h
  cases a with
  | mk da =>
    cases b with
    | mk db =>
      simp at h
      rw [h]
theorem undrew4 {w w' : World} (h : Below w.drew.heap.size w.drew w') : Below w.heap.size w w' := ⟨h.os, h.tape, h.output, h.size, h.block⟩
theorem RunV.drew {B : Nat} {T : Nat → Prop} {X w : World} {cb b n L z : Nat} {now nxt : Value} {torn : Bool} (h : RunV B T X w cb b n L z now nxt torn) : RunV B T X.drew w cb b n L z now nxt torn := h.bel0 (bel_drewN (Below.refl _ _) 1)
/-- The run behind a crash: what the next opening finds. -/
structure CrV (B : Nat) (T : Nat → Prop) (X w : World) (b n L z : Nat) (now nxt : Value) (torn : Bool) (M : DM) (c c0 : List Int) (g i : Nat) : Prop where
  dr : DR B T X b M
  tr : TR B T X
  bel : Below B w X
  sz : M.sz = z
  secs : M.secs.length = L
  rng : RngM M
  off : M.off = false
  cch : M.cache = []
  nw : nwD M 1 n = (c, g, i)
  now : CR T X now c0
  bc0 : Byt c0
  byt : Byt c
  is : c = c0 ∨ (c ≠ c0 ∧ torn = true ∧ CR T X nxt c)
section
variable {B : Nat} {T : Nat → Prop} {X X' w : World} {cb b n L z : Nat} {now nxt : Value} {torn : Bool} {M : DM} {c c0 : List Int} {g i : Nat}
theorem CrV.bel0 (h : CrV B T X w b n L z now nxt torn M c c0 g i) (hb : Below X.heap.size X X') : CrV B T X' w b n L z now nxt torn M c c0 g i :=
  ⟨h.dr.bel0 hb, h.tr.same hb.size, h.bel.trans (hb.mono h.tr.hB), h.sz, h.secs, h.rng, h.off, h.cch, h.nw, h.now.keep (keeps_belw hb), h.bc0, h.byt, by
    rcases h.is with q | ⟨q1, q2, q3⟩
    · exact Or.inl q
    · exact Or.inr ⟨q1, q2, q3.keep (keeps_belw hb)⟩⟩
theorem RunV.crash {ko : Option Addr} {kn kc : Nat} {kl : List Bool} (h : RunV B T X w cb b n L z now nxt torn) (hk : Rd X (.slice ko kn kc) (bls kl) ∧ (0 < (bls kl).length → In T (.slice ko kn kc))) :
    Calls Tryd.prog 28 #[.pointer (some ⟨b, 0, none⟩), .slice ko kn kc] X fun e w' => e = .returned (.tuple #[]) ∧ ∃ M c c0 g i, CrV B T w' w b n L z now nxt torn M c c0 g i := by
  obtain ⟨t, b0, M, i, g, c, e1, e2, r, bc', hs⟩ := h
  rcases hs with ⟨q, lv⟩ | ⟨q, l2, rn, bl2, dv⟩
  · exact (lv.st.disk.crash t (by rw [lv.cln]; exact Nat.zero_le _) ko kn kc kl hk).mono fun e w' ⟨q1, q2, q3, q4⟩ => ⟨q1, crashF M kl, c, c, g, i, q2, t.same q4.1, b0.trans q3, e1, (keepF_len _ _ _ _).trans e2, rng_crash lv.rng kl, rfl, rfl, (nw_crash lv.cln kl 1 n).trans lv.nw, r.keep q4, bc', bc', Or.inl rfl⟩
  · refine (dv.st.disk.crash t (Nat.le_trans dv.cch (by decide)) ko kn kc kl hk).mono fun e w' ⟨q1, q2, q3, q4⟩ => ?_
    rcases dv.nw kl with e9 | e9
    · exact ⟨q1, crashF M kl, c, c, g, i, q2, t.same q4.1, b0.trans q3, e1, (keepF_len _ _ _ _).trans e2, rng_crash dv.rng kl, rfl, rfl, e9, r.keep q4, bc', bc', Or.inl rfl⟩
    · refine ⟨q1, crashF M kl, l2, c, g + 1, 1 - i, q2, t.same q4.1, b0.trans q3, e1, (keepF_len _ _ _ _).trans e2, rng_crash dv.rng kl, rfl, rfl, e9, r.keep q4, bc', bl2, ?_⟩
      by_cases hc : l2 = c
      · exact Or.inl hc
      · exact Or.inr ⟨hc, q, rn.keep q4⟩
theorem CrV.cmp (h : CrV B T X w b n L z now nxt torn M c c0 g i) : strOfNums c = strOfNums c0 ∨ (((strOfNums c).toList == (strOfNums c0).toList) = false ∧ ((strOfNums c).toList != (strOfNums c0).toList) = true ∧ torn = true ∧ (convert 32 9 nxt).run Tryd.prog X = .ok (.string (strOfNums c)) X) := by
  rcases h.is with q | ⟨q1, q2, q3⟩
  · exact Or.inl (by rw [q])
  · have hne : ((strOfNums c).toList == (strOfNums c0).toList) = false := by
      rw [beq_eq_false_iff_ne]
      exact fun h9 => q1 ((strs_eq h.byt h.bc0).1 (strl_inj h9))
    exact Or.inr ⟨hne, by rw [bne, hne]; rfl, q2, conv_lies (lies_of q3.1)⟩
end
end Go.Proofs.YtlffiebnieakjaaDoor

/- The law Opens, whatever the example gives. Bounds on sizes alone. -/
namespace Go.Proofs.YtlffiebnieakjaaDoor
open Go.RowKit
set_option maxRecDepth 100000
set_option maxHeartbeats 12800000

theorem wf_r64 {n : Int} (h : (Lit.int .i64 n).wf = true) : -9223372036854775808 ≤ n ∧ n ≤ 9223372036854775807 := by
  simpa [Lit.wf, IntKind.min, IntKind.max, IntKind.signed, IntKind.bits] using h
/-- The disk whose power has failed. -/
def offM (n z : Nat) : DM := (syncF (failF (newF n z) 0)).2
theorem offM_eq (n z : Nat) : (offM n z).off = true ∧ (offM n z).secs.length = n ∧ (offM n z).sz = z := by
  have h : failF (newF n z) 0 = { newF n z with cnt := 0 } := rfl
  have e : offM n z = { newF n z with cnt := 0, off := true } := by
    unfold offM
    rw [h]
    rfl
  rw [e]
  exact ⟨rfl, new_secs n z, rfl⟩
abbrev OpAW : Prop := ∀ w, Sh.Glob w → Calls Tryd.prog 10 #[] w (BoP true w)
theorem op_big (AW : OpAW) (a0 a1 a2 a3 : Int) (dn : Bool) (w : World) (hG : Sh.Glob w) (h : 100 < a0) : Calls Tryd.prog 8 #[.int .i64 a0, .int .i64 a1, .int .i64 a2, .int .i64 a3, .bool dn] w (BoP true w) := by
  obtain ⟨B, hB⟩ : ∃ B, B = w.heap.size := ⟨_, rfl⟩
  have HBL := hid_of (show B ≤ w.heap.size by omega)
  have CAW := hid_of (show Calls Tryd.prog 10 #[] w (fun e w' => e = .returned (.bool true) ∧ Below B w w') from by rw [hB]; exact AW w hG)
  rw [show BoP true w = fun e w' => e = .returned (.bool true) ∧ Below B w w' from by rw [hB]]
  have d1 : decide (100 < a0) = true := decide_eq_true h
  clear hB hG AW
  go_enter Tryd.func8, Tryd.ntmps8
  go_wp2_with (go_at_call 10; ((with_reducible refine (CAW.out).mono ?_); (rintro e w1 ⟨rfl, q1⟩)); have B1 := hid_of q1; clear q1)
  go_ret
  exact ⟨rfl, B1.out⟩
theorem op_bad (AW : OpAW) (a0 a1 a2 a3 : Int) (dn : Bool) (w : World) (hG : Sh.Glob w) (h : ¬ 100 < a0) (r0 : R64 a0) (r1 : R64 a1) (hv : ¬((1 ≤ a0 ∧ a0 ≤ 65536) ∧ 16 ≤ a1 ∧ a1 ≤ 4096)) : Calls Tryd.prog 8 #[.int .i64 a0, .int .i64 a1, .int .i64 a2, .int .i64 a3, .bool dn] w (BoP true w) := by
  obtain ⟨B, hB⟩ : ∃ B, B = w.heap.size := ⟨_, rfl⟩
  have HBL := hid_of (show B ≤ w.heap.size by omega)
  have CAW := hid_of (show Calls Tryd.prog 10 #[] w (fun e w' => e = .returned (.bool true) ∧ Below B w w') from by rw [hB]; exact AW w hG)
  rw [show BoP true w = fun e w' => e = .returned (.bool true) ∧ Below B w w' from by rw [hB]]
  have d1 : decide (100 < a0) = false := decide_eq_false h
  have CN := hid_of (fun (X : World) => IG.newN a0 a1 r0 r1 hv X)
  clear hB hG AW
  go_enter Tryd.func8, Tryd.ntmps8
  go_wp2_with (first
    | (go_at_call 10; ((with_reducible refine (CAW.out).mono ?_); (rintro e w1 ⟨rfl, q1⟩)); have B1 := hid_of q1; clear q1)
    | (go_at_call 29; ((with_reducible refine (CN.out w1).mono ?_); (rintro e w2 ⟨rfl, q1⟩)); have B2 := hid_of (B1.out.trans (q1.mono (Nat.le_trans HBL.out B1.out.size))); clear q1))
  go_ret
  exact ⟨rfl, B2.out⟩
theorem op_t1 (AW : OpAW) (n z : Nat) (a2 a3 : Int) (w : World) (hG : Sh.Glob w) (hn : 1 ≤ n ∧ n ≤ 100) (hz : 16 ≤ z ∧ z ≤ 4096) (r2 : R64 a2) (r3 : R64 a3) (c1 : a2 < 0) : Calls Tryd.prog 8 #[.int .i64 n, .int .i64 z, .int .i64 a2, .int .i64 a3, .bool true] w (BoP true w) := by
  obtain ⟨B, hB⟩ : ∃ B, B = w.heap.size := ⟨_, rfl⟩
  have HBL := hid_of (show B ≤ w.heap.size by omega)
  have CAW := hid_of (show Calls Tryd.prog 10 #[] w (fun e w' => e = .returned (.bool true) ∧ Below B w w') from by rw [hB]; exact AW w hG)
  rw [show BoP true w = fun e w' => e = .returned (.bool true) ∧ Below B w w' from by rw [hB]]
  obtain ⟨T, hT⟩ : ∃ T : Nat → Prop, T = fun k => k < B := ⟨_, rfl⟩
  have HTR := hid_of (fun (X : World) (h : w.heap.size ≤ X.heap.size) => show TR B T X from by rw [hT]; have h9 := tr_new (w := w) (w' := X) h; rwa [← hB] at h9)
  have d1 : ¬ 100 < (n : Int) := by omega
  have d1b : decide (100 < (n : Int)) = false := decide_eq_false d1
  have CN := hid_of (fun (X : World) (h : Below B w X) => (dr_new n z hn.1 (by omega) hz.1 hz.2 X).mono (R' := fun e w' => ∃ b, e = .returned (.tuple #[.pointer (some ⟨b, 0, none⟩), .int .i64 0]) ∧ DR B T w' b (newF n z) ∧ Below X.heap.size X w') (fun e w' ⟨b, q1, q2, q3⟩ => ⟨b, q1, by
    obtain ⟨SD, g1, g2⟩ := q2
    exact ⟨SD, g1, fun k hk => ⟨Nat.le_trans (Nat.le_trans HBL.out h.size) (g2 k hk).1, (g2 k hk).2.1, fun e => (g2 k hk).2.2 (Nat.lt_of_lt_of_le ((HTR.out w (Nat.le_refl _)).lt k e) h.size)⟩⟩, q3⟩))
  have dc1 : decide (a2 < 0) = true := decide_eq_true c1
  have CFL := hid_of (fun (X : World) (b : Nat) (h : w.heap.size ≤ X.heap.size) (d : DR B T X b (newF n z)) => (d.fail (HTR.out X h) 0 ⟨by decide, by decide⟩).mono (R' := fun e w' => e = .returned (.tuple #[]) ∧ DR B T w' b (failF (newF n z) 0) ∧ Below B X w') fun e w' ⟨q1, q2, q3, _⟩ => ⟨q1, q2, q3⟩)
  have CSY := hid_of (fun (X : World) (b : Nat) (h : w.heap.size ≤ X.heap.size) (d : DR B T X b (failF (newF n z) 0)) => show Calls Tryd.prog 26 #[.pointer (some ⟨b, 0, none⟩)] X (fun e w' => ∃ cd, e = .returned (.int .i64 cd) ∧ DR B T w' b (offM n z) ∧ Below B X w') from (d.sync (HTR.out X h) (by show 0 ≤ _; omega)).mono fun e w' ⟨q1, q2, q3, _⟩ => ⟨_, q1, q2, q3⟩)
  have CO := hid_of (fun (X : World) (b : Nat) (d : DR B T X b (offM n z)) => show Calls Tryd.prog 14 #[.pointer (some ⟨b, 0, none⟩), .int .i64 a2, .int .i64 a3] X (fun e w' => e = .returned (.tuple #[.pointer none, .int .i64 1]) ∧ Below X.heap.size X w') from by
    obtain ⟨o1, o2, o3⟩ := offM_eq n z
    exact open_arg d a2 a3 r2.2 (by rw [o2, o3]; omega))
  clear hB hG AW hT
  go_enter Tryd.func8, Tryd.ntmps8
  go_wp2_with (first
    | (go_at_call 10; ((with_reducible refine (CAW.out).mono ?_); (rintro e w1 ⟨rfl, q1⟩)); have B1 := hid_of q1; clear q1)
    | (go_at_call 29; ((with_reducible refine (CN.out w1 B1.out).mono ?_); (rintro e w2 ⟨b, rfl, q2, q1⟩)); have D2 := hid_of q2; have B2 := hid_of (B1.out.trans (q1.mono (Nat.le_trans HBL.out B1.out.size))); clear q1 q2)
    | (go_at_call 25; ((with_reducible refine (CFL.out w2 b B2.out.size D2.out).mono ?_); (rintro e w3 ⟨rfl, q2, q1⟩)); have D3 := hid_of q2; have B3 := hid_of (B2.out.trans q1); clear q1 q2)
    | (go_at_call 26; ((with_reducible refine (CSY.out w3 b B3.out.size D3.out).mono ?_); (rintro e w4 ⟨cd, rfl, q2, q1⟩)); have D4 := hid_of q2; have B4 := hid_of (B3.out.trans q1); clear q1 q2)
    | (go_at_call 14; ((with_reducible refine (CO.out w4 b D4.out).mono ?_); (rintro e w5 ⟨rfl, q1⟩)); have B5 := hid_of (B4.out.trans (q1.mono (Nat.le_trans HBL.out B4.out.size))); clear q1))
  go_ret
  exact ⟨rfl, B5.out⟩
theorem op_t2 (AW : OpAW) (n z : Nat) (a2 a3 : Int) (w : World) (hG : Sh.Glob w) (hn : 1 ≤ n ∧ n ≤ 100) (hz : 16 ≤ z ∧ z ≤ 4096) (r2 : R64 a2) (r3 : R64 a3) (c1 : ¬ a2 < 0) (c2 : a3 < 4) : Calls Tryd.prog 8 #[.int .i64 n, .int .i64 z, .int .i64 a2, .int .i64 a3, .bool true] w (BoP true w) := by
  obtain ⟨B, hB⟩ : ∃ B, B = w.heap.size := ⟨_, rfl⟩
  have HBL := hid_of (show B ≤ w.heap.size by omega)
  have CAW := hid_of (show Calls Tryd.prog 10 #[] w (fun e w' => e = .returned (.bool true) ∧ Below B w w') from by rw [hB]; exact AW w hG)
  rw [show BoP true w = fun e w' => e = .returned (.bool true) ∧ Below B w w' from by rw [hB]]
  obtain ⟨T, hT⟩ : ∃ T : Nat → Prop, T = fun k => k < B := ⟨_, rfl⟩
  have HTR := hid_of (fun (X : World) (h : w.heap.size ≤ X.heap.size) => show TR B T X from by rw [hT]; have h9 := tr_new (w := w) (w' := X) h; rwa [← hB] at h9)
  have d1 : ¬ 100 < (n : Int) := by omega
  have d1b : decide (100 < (n : Int)) = false := decide_eq_false d1
  have CN := hid_of (fun (X : World) (h : Below B w X) => (dr_new n z hn.1 (by omega) hz.1 hz.2 X).mono (R' := fun e w' => ∃ b, e = .returned (.tuple #[.pointer (some ⟨b, 0, none⟩), .int .i64 0]) ∧ DR B T w' b (newF n z) ∧ Below X.heap.size X w') (fun e w' ⟨b, q1, q2, q3⟩ => ⟨b, q1, by
    obtain ⟨SD, g1, g2⟩ := q2
    exact ⟨SD, g1, fun k hk => ⟨Nat.le_trans (Nat.le_trans HBL.out h.size) (g2 k hk).1, (g2 k hk).2.1, fun e => (g2 k hk).2.2 (Nat.lt_of_lt_of_le ((HTR.out w (Nat.le_refl _)).lt k e) h.size)⟩⟩, q3⟩))
  have dc1 : decide (a2 < 0) = false := decide_eq_false c1
  have dc2 : decide (a3 < 4) = true := decide_eq_true c2
  have CFL := hid_of (fun (X : World) (b : Nat) (h : w.heap.size ≤ X.heap.size) (d : DR B T X b (newF n z)) => (d.fail (HTR.out X h) 0 ⟨by decide, by decide⟩).mono (R' := fun e w' => e = .returned (.tuple #[]) ∧ DR B T w' b (failF (newF n z) 0) ∧ Below B X w') fun e w' ⟨q1, q2, q3, _⟩ => ⟨q1, q2, q3⟩)
  have CSY := hid_of (fun (X : World) (b : Nat) (h : w.heap.size ≤ X.heap.size) (d : DR B T X b (failF (newF n z) 0)) => show Calls Tryd.prog 26 #[.pointer (some ⟨b, 0, none⟩)] X (fun e w' => ∃ cd, e = .returned (.int .i64 cd) ∧ DR B T w' b (offM n z) ∧ Below B X w') from (d.sync (HTR.out X h) (by show 0 ≤ _; omega)).mono fun e w' ⟨q1, q2, q3, _⟩ => ⟨_, q1, q2, q3⟩)
  have CO := hid_of (fun (X : World) (b : Nat) (d : DR B T X b (offM n z)) => show Calls Tryd.prog 14 #[.pointer (some ⟨b, 0, none⟩), .int .i64 a2, .int .i64 a3] X (fun e w' => e = .returned (.tuple #[.pointer none, .int .i64 1]) ∧ Below X.heap.size X w') from by
    obtain ⟨o1, o2, o3⟩ := offM_eq n z
    exact open_arg d a2 a3 r2.2 (by rw [o2, o3]; omega))
  clear hB hG AW hT
  go_enter Tryd.func8, Tryd.ntmps8
  go_wp2_with (first
    | (go_at_call 10; ((with_reducible refine (CAW.out).mono ?_); (rintro e w1 ⟨rfl, q1⟩)); have B1 := hid_of q1; clear q1)
    | (go_at_call 29; ((with_reducible refine (CN.out w1 B1.out).mono ?_); (rintro e w2 ⟨b, rfl, q2, q1⟩)); have D2 := hid_of q2; have B2 := hid_of (B1.out.trans (q1.mono (Nat.le_trans HBL.out B1.out.size))); clear q1 q2)
    | (go_at_call 25; ((with_reducible refine (CFL.out w2 b B2.out.size D2.out).mono ?_); (rintro e w3 ⟨rfl, q2, q1⟩)); have D3 := hid_of q2; have B3 := hid_of (B2.out.trans q1); clear q1 q2)
    | (go_at_call 26; ((with_reducible refine (CSY.out w3 b B3.out.size D3.out).mono ?_); (rintro e w4 ⟨cd, rfl, q2, q1⟩)); have D4 := hid_of q2; have B4 := hid_of (B3.out.trans q1); clear q1 q2)
    | (go_at_call 14; ((with_reducible refine (CO.out w4 b D4.out).mono ?_); (rintro e w5 ⟨rfl, q1⟩)); have B5 := hid_of (B4.out.trans (q1.mono (Nat.le_trans HBL.out B4.out.size))); clear q1))
  go_ret
  exact ⟨rfl, B5.out⟩
theorem op_t3 (AW : OpAW) (n z : Nat) (a2 a3 : Int) (w : World) (hG : Sh.Glob w) (hn : 1 ≤ n ∧ n ≤ 100) (hz : 16 ≤ z ∧ z ≤ 4096) (r2 : R64 a2) (r3 : R64 a3) (c1 : ¬ a2 < 0) (c2 : ¬ a3 < 4) (c3 : (n : Int) < a2) : Calls Tryd.prog 8 #[.int .i64 n, .int .i64 z, .int .i64 a2, .int .i64 a3, .bool true] w (BoP true w) := by
  obtain ⟨B, hB⟩ : ∃ B, B = w.heap.size := ⟨_, rfl⟩
  have HBL := hid_of (show B ≤ w.heap.size by omega)
  have CAW := hid_of (show Calls Tryd.prog 10 #[] w (fun e w' => e = .returned (.bool true) ∧ Below B w w') from by rw [hB]; exact AW w hG)
  rw [show BoP true w = fun e w' => e = .returned (.bool true) ∧ Below B w w' from by rw [hB]]
  obtain ⟨T, hT⟩ : ∃ T : Nat → Prop, T = fun k => k < B := ⟨_, rfl⟩
  have HTR := hid_of (fun (X : World) (h : w.heap.size ≤ X.heap.size) => show TR B T X from by rw [hT]; have h9 := tr_new (w := w) (w' := X) h; rwa [← hB] at h9)
  have d1 : ¬ 100 < (n : Int) := by omega
  have d1b : decide (100 < (n : Int)) = false := decide_eq_false d1
  have CN := hid_of (fun (X : World) (h : Below B w X) => (dr_new n z hn.1 (by omega) hz.1 hz.2 X).mono (R' := fun e w' => ∃ b, e = .returned (.tuple #[.pointer (some ⟨b, 0, none⟩), .int .i64 0]) ∧ DR B T w' b (newF n z) ∧ Below X.heap.size X w') (fun e w' ⟨b, q1, q2, q3⟩ => ⟨b, q1, by
    obtain ⟨SD, g1, g2⟩ := q2
    exact ⟨SD, g1, fun k hk => ⟨Nat.le_trans (Nat.le_trans HBL.out h.size) (g2 k hk).1, (g2 k hk).2.1, fun e => (g2 k hk).2.2 (Nat.lt_of_lt_of_le ((HTR.out w (Nat.le_refl _)).lt k e) h.size)⟩⟩, q3⟩))
  have dc1 : decide (a2 < 0) = false := decide_eq_false c1
  have dc2 : decide (a3 < 4) = false := decide_eq_false c2
  have dc3 : decide ((n : Int) < a2) = true := decide_eq_true c3
  have CFL := hid_of (fun (X : World) (b : Nat) (h : w.heap.size ≤ X.heap.size) (d : DR B T X b (newF n z)) => (d.fail (HTR.out X h) 0 ⟨by decide, by decide⟩).mono (R' := fun e w' => e = .returned (.tuple #[]) ∧ DR B T w' b (failF (newF n z) 0) ∧ Below B X w') fun e w' ⟨q1, q2, q3, _⟩ => ⟨q1, q2, q3⟩)
  have CSY := hid_of (fun (X : World) (b : Nat) (h : w.heap.size ≤ X.heap.size) (d : DR B T X b (failF (newF n z) 0)) => show Calls Tryd.prog 26 #[.pointer (some ⟨b, 0, none⟩)] X (fun e w' => ∃ cd, e = .returned (.int .i64 cd) ∧ DR B T w' b (offM n z) ∧ Below B X w') from (d.sync (HTR.out X h) (by show 0 ≤ _; omega)).mono fun e w' ⟨q1, q2, q3, _⟩ => ⟨_, q1, q2, q3⟩)
  have CO := hid_of (fun (X : World) (b : Nat) (d : DR B T X b (offM n z)) => show Calls Tryd.prog 14 #[.pointer (some ⟨b, 0, none⟩), .int .i64 a2, .int .i64 a3] X (fun e w' => e = .returned (.tuple #[.pointer none, .int .i64 1]) ∧ Below X.heap.size X w') from by
    obtain ⟨o1, o2, o3⟩ := offM_eq n z
    exact open_arg d a2 a3 r2.2 (by rw [o2, o3]; omega))
  clear hB hG AW hT
  go_enter Tryd.func8, Tryd.ntmps8
  go_wp2_with (first
    | (go_at_call 10; ((with_reducible refine (CAW.out).mono ?_); (rintro e w1 ⟨rfl, q1⟩)); have B1 := hid_of q1; clear q1)
    | (go_at_call 29; ((with_reducible refine (CN.out w1 B1.out).mono ?_); (rintro e w2 ⟨b, rfl, q2, q1⟩)); have D2 := hid_of q2; have B2 := hid_of (B1.out.trans (q1.mono (Nat.le_trans HBL.out B1.out.size))); clear q1 q2)
    | (go_at_call 25; ((with_reducible refine (CFL.out w2 b B2.out.size D2.out).mono ?_); (rintro e w3 ⟨rfl, q2, q1⟩)); have D3 := hid_of q2; have B3 := hid_of (B2.out.trans q1); clear q1 q2)
    | (go_at_call 26; ((with_reducible refine (CSY.out w3 b B3.out.size D3.out).mono ?_); (rintro e w4 ⟨cd, rfl, q2, q1⟩)); have D4 := hid_of q2; have B4 := hid_of (B3.out.trans q1); clear q1 q2)
    | (go_at_call 14; ((with_reducible refine (CO.out w4 b D4.out).mono ?_); (rintro e w5 ⟨rfl, q1⟩)); have B5 := hid_of (B4.out.trans (q1.mono (Nat.le_trans HBL.out B4.out.size))); clear q1))
  go_ret
  exact ⟨rfl, B5.out⟩
theorem op_t4 (AW : OpAW) (n z : Nat) (a2 a3 : Int) (w : World) (hG : Sh.Glob w) (hn : 1 ≤ n ∧ n ≤ 100) (hz : 16 ≤ z ∧ z ≤ 4096) (r2 : R64 a2) (r3 : R64 a3) (c1 : ¬ a2 < 0) (c2 : ¬ a3 < 4) (c3 : ¬ (n : Int) < a2) (c4 : (n : Int) - a2 < a3) : Calls Tryd.prog 8 #[.int .i64 n, .int .i64 z, .int .i64 a2, .int .i64 a3, .bool true] w (BoP true w) := by
  obtain ⟨B, hB⟩ : ∃ B, B = w.heap.size := ⟨_, rfl⟩
  have HBL := hid_of (show B ≤ w.heap.size by omega)
  have CAW := hid_of (show Calls Tryd.prog 10 #[] w (fun e w' => e = .returned (.bool true) ∧ Below B w w') from by rw [hB]; exact AW w hG)
  rw [show BoP true w = fun e w' => e = .returned (.bool true) ∧ Below B w w' from by rw [hB]]
  obtain ⟨T, hT⟩ : ∃ T : Nat → Prop, T = fun k => k < B := ⟨_, rfl⟩
  have HTR := hid_of (fun (X : World) (h : w.heap.size ≤ X.heap.size) => show TR B T X from by rw [hT]; have h9 := tr_new (w := w) (w' := X) h; rwa [← hB] at h9)
  have d1 : ¬ 100 < (n : Int) := by omega
  have d1b : decide (100 < (n : Int)) = false := decide_eq_false d1
  have CN := hid_of (fun (X : World) (h : Below B w X) => (dr_new n z hn.1 (by omega) hz.1 hz.2 X).mono (R' := fun e w' => ∃ b, e = .returned (.tuple #[.pointer (some ⟨b, 0, none⟩), .int .i64 0]) ∧ DR B T w' b (newF n z) ∧ Below X.heap.size X w') (fun e w' ⟨b, q1, q2, q3⟩ => ⟨b, q1, by
    obtain ⟨SD, g1, g2⟩ := q2
    exact ⟨SD, g1, fun k hk => ⟨Nat.le_trans (Nat.le_trans HBL.out h.size) (g2 k hk).1, (g2 k hk).2.1, fun e => (g2 k hk).2.2 (Nat.lt_of_lt_of_le ((HTR.out w (Nat.le_refl _)).lt k e) h.size)⟩⟩, q3⟩))
  have dc1 : decide (a2 < 0) = false := decide_eq_false c1
  have dc2 : decide (a3 < 4) = false := decide_eq_false c2
  have dc3 : decide ((n : Int) < a2) = false := decide_eq_false c3
  have dc4 : decide ((n : Int) - a2 < a3) = true := decide_eq_true c4
  have lw : IntKind.i64.wrap ((n : Int) - a2) = (n : Int) - a2 := IntWalk.i64_in _ (by omega)
  have CFL := hid_of (fun (X : World) (b : Nat) (h : w.heap.size ≤ X.heap.size) (d : DR B T X b (newF n z)) => (d.fail (HTR.out X h) 0 ⟨by decide, by decide⟩).mono (R' := fun e w' => e = .returned (.tuple #[]) ∧ DR B T w' b (failF (newF n z) 0) ∧ Below B X w') fun e w' ⟨q1, q2, q3, _⟩ => ⟨q1, q2, q3⟩)
  have CSY := hid_of (fun (X : World) (b : Nat) (h : w.heap.size ≤ X.heap.size) (d : DR B T X b (failF (newF n z) 0)) => show Calls Tryd.prog 26 #[.pointer (some ⟨b, 0, none⟩)] X (fun e w' => ∃ cd, e = .returned (.int .i64 cd) ∧ DR B T w' b (offM n z) ∧ Below B X w') from (d.sync (HTR.out X h) (by show 0 ≤ _; omega)).mono fun e w' ⟨q1, q2, q3, _⟩ => ⟨_, q1, q2, q3⟩)
  have CO := hid_of (fun (X : World) (b : Nat) (d : DR B T X b (offM n z)) => show Calls Tryd.prog 14 #[.pointer (some ⟨b, 0, none⟩), .int .i64 a2, .int .i64 a3] X (fun e w' => e = .returned (.tuple #[.pointer none, .int .i64 1]) ∧ Below X.heap.size X w') from by
    obtain ⟨o1, o2, o3⟩ := offM_eq n z
    exact open_arg d a2 a3 r2.2 (by rw [o2, o3]; omega))
  clear hB hG AW hT
  go_enter Tryd.func8, Tryd.ntmps8
  go_wp2_with (first
    | (go_at_call 10; ((with_reducible refine (CAW.out).mono ?_); (rintro e w1 ⟨rfl, q1⟩)); have B1 := hid_of q1; clear q1)
    | (go_at_call 29; ((with_reducible refine (CN.out w1 B1.out).mono ?_); (rintro e w2 ⟨b, rfl, q2, q1⟩)); have D2 := hid_of q2; have B2 := hid_of (B1.out.trans (q1.mono (Nat.le_trans HBL.out B1.out.size))); clear q1 q2)
    | (go_at_call 25; ((with_reducible refine (CFL.out w2 b B2.out.size D2.out).mono ?_); (rintro e w3 ⟨rfl, q2, q1⟩)); have D3 := hid_of q2; have B3 := hid_of (B2.out.trans q1); clear q1 q2)
    | (go_at_call 26; ((with_reducible refine (CSY.out w3 b B3.out.size D3.out).mono ?_); (rintro e w4 ⟨cd, rfl, q2, q1⟩)); have D4 := hid_of q2; have B4 := hid_of (B3.out.trans q1); clear q1 q2)
    | (go_at_call 14; ((with_reducible refine (CO.out w4 b D4.out).mono ?_); (rintro e w5 ⟨rfl, q1⟩)); have B5 := hid_of (B4.out.trans (q1.mono (Nat.le_trans HBL.out B4.out.size))); clear q1))
  go_ret
  exact ⟨rfl, B5.out⟩
theorem op_t5 (AW : OpAW) (n z : Nat) (a2 a3 : Int) (w : World) (hG : Sh.Glob w) (hn : 1 ≤ n ∧ n ≤ 100) (hz : 16 ≤ z ∧ z ≤ 4096) (r2 : R64 a2) (r3 : R64 a3) (c1 : ¬ a2 < 0) (c2 : ¬ a3 < 4) (c3 : ¬ (n : Int) < a2) (c4 : ¬ (n : Int) - a2 < a3) (c5 : (z : Int) < 64) : Calls Tryd.prog 8 #[.int .i64 n, .int .i64 z, .int .i64 a2, .int .i64 a3, .bool true] w (BoP true w) := by
  obtain ⟨B, hB⟩ : ∃ B, B = w.heap.size := ⟨_, rfl⟩
  have HBL := hid_of (show B ≤ w.heap.size by omega)
  have CAW := hid_of (show Calls Tryd.prog 10 #[] w (fun e w' => e = .returned (.bool true) ∧ Below B w w') from by rw [hB]; exact AW w hG)
  rw [show BoP true w = fun e w' => e = .returned (.bool true) ∧ Below B w w' from by rw [hB]]
  obtain ⟨T, hT⟩ : ∃ T : Nat → Prop, T = fun k => k < B := ⟨_, rfl⟩
  have HTR := hid_of (fun (X : World) (h : w.heap.size ≤ X.heap.size) => show TR B T X from by rw [hT]; have h9 := tr_new (w := w) (w' := X) h; rwa [← hB] at h9)
  have d1 : ¬ 100 < (n : Int) := by omega
  have d1b : decide (100 < (n : Int)) = false := decide_eq_false d1
  have CN := hid_of (fun (X : World) (h : Below B w X) => (dr_new n z hn.1 (by omega) hz.1 hz.2 X).mono (R' := fun e w' => ∃ b, e = .returned (.tuple #[.pointer (some ⟨b, 0, none⟩), .int .i64 0]) ∧ DR B T w' b (newF n z) ∧ Below X.heap.size X w') (fun e w' ⟨b, q1, q2, q3⟩ => ⟨b, q1, by
    obtain ⟨SD, g1, g2⟩ := q2
    exact ⟨SD, g1, fun k hk => ⟨Nat.le_trans (Nat.le_trans HBL.out h.size) (g2 k hk).1, (g2 k hk).2.1, fun e => (g2 k hk).2.2 (Nat.lt_of_lt_of_le ((HTR.out w (Nat.le_refl _)).lt k e) h.size)⟩⟩, q3⟩))
  have dc1 : decide (a2 < 0) = false := decide_eq_false c1
  have dc2 : decide (a3 < 4) = false := decide_eq_false c2
  have dc3 : decide ((n : Int) < a2) = false := decide_eq_false c3
  have dc4 : decide ((n : Int) - a2 < a3) = false := decide_eq_false c4
  have dc5 : decide ((z : Int) < 64) = true := decide_eq_true c5
  have lw : IntKind.i64.wrap ((n : Int) - a2) = (n : Int) - a2 := IntWalk.i64_in _ (by omega)
  have CFL := hid_of (fun (X : World) (b : Nat) (h : w.heap.size ≤ X.heap.size) (d : DR B T X b (newF n z)) => (d.fail (HTR.out X h) 0 ⟨by decide, by decide⟩).mono (R' := fun e w' => e = .returned (.tuple #[]) ∧ DR B T w' b (failF (newF n z) 0) ∧ Below B X w') fun e w' ⟨q1, q2, q3, _⟩ => ⟨q1, q2, q3⟩)
  have CSY := hid_of (fun (X : World) (b : Nat) (h : w.heap.size ≤ X.heap.size) (d : DR B T X b (failF (newF n z) 0)) => show Calls Tryd.prog 26 #[.pointer (some ⟨b, 0, none⟩)] X (fun e w' => ∃ cd, e = .returned (.int .i64 cd) ∧ DR B T w' b (offM n z) ∧ Below B X w') from (d.sync (HTR.out X h) (by show 0 ≤ _; omega)).mono fun e w' ⟨q1, q2, q3, _⟩ => ⟨_, q1, q2, q3⟩)
  have CO := hid_of (fun (X : World) (b : Nat) (d : DR B T X b (offM n z)) => show Calls Tryd.prog 14 #[.pointer (some ⟨b, 0, none⟩), .int .i64 a2, .int .i64 a3] X (fun e w' => e = .returned (.tuple #[.pointer none, .int .i64 1]) ∧ Below X.heap.size X w') from by
    obtain ⟨o1, o2, o3⟩ := offM_eq n z
    exact open_arg d a2 a3 r2.2 (by rw [o2, o3]; omega))
  clear hB hG AW hT
  go_enter Tryd.func8, Tryd.ntmps8
  go_wp2_with (first
    | (go_at_call 10; ((with_reducible refine (CAW.out).mono ?_); (rintro e w1 ⟨rfl, q1⟩)); have B1 := hid_of q1; clear q1)
    | (go_at_call 29; ((with_reducible refine (CN.out w1 B1.out).mono ?_); (rintro e w2 ⟨b, rfl, q2, q1⟩)); have D2 := hid_of q2; have B2 := hid_of (B1.out.trans (q1.mono (Nat.le_trans HBL.out B1.out.size))); clear q1 q2)
    | (go_at_call 25; ((with_reducible refine (CFL.out w2 b B2.out.size D2.out).mono ?_); (rintro e w3 ⟨rfl, q2, q1⟩)); have D3 := hid_of q2; have B3 := hid_of (B2.out.trans q1); clear q1 q2)
    | (go_at_call 26; ((with_reducible refine (CSY.out w3 b B3.out.size D3.out).mono ?_); (rintro e w4 ⟨cd, rfl, q2, q1⟩)); have D4 := hid_of q2; have B4 := hid_of (B3.out.trans q1); clear q1 q2)
    | (go_at_call 14; ((with_reducible refine (CO.out w4 b D4.out).mono ?_); (rintro e w5 ⟨rfl, q1⟩)); have B5 := hid_of (B4.out.trans (q1.mono (Nat.le_trans HBL.out B4.out.size))); clear q1))
  go_ret
  exact ⟨rfl, B5.out⟩
theorem op_t6 (AW : OpAW) (n z : Nat) (a2 a3 : Int) (w : World) (hG : Sh.Glob w) (hn : 1 ≤ n ∧ n ≤ 100) (hz : 16 ≤ z ∧ z ≤ 4096) (r2 : R64 a2) (r3 : R64 a3) (c1 : ¬ a2 < 0) (c2 : ¬ a3 < 4) (c3 : ¬ (n : Int) < a2) (c4 : ¬ (n : Int) - a2 < a3) (c5 : ¬ (z : Int) < 64) : Calls Tryd.prog 8 #[.int .i64 n, .int .i64 z, .int .i64 a2, .int .i64 a3, .bool true] w (BoP true w) := by
  obtain ⟨B, hB⟩ : ∃ B, B = w.heap.size := ⟨_, rfl⟩
  have HBL := hid_of (show B ≤ w.heap.size by omega)
  have CAW := hid_of (show Calls Tryd.prog 10 #[] w (fun e w' => e = .returned (.bool true) ∧ Below B w w') from by rw [hB]; exact AW w hG)
  rw [show BoP true w = fun e w' => e = .returned (.bool true) ∧ Below B w w' from by rw [hB]]
  obtain ⟨T, hT⟩ : ∃ T : Nat → Prop, T = fun k => k < B := ⟨_, rfl⟩
  have HTR := hid_of (fun (X : World) (h : w.heap.size ≤ X.heap.size) => show TR B T X from by rw [hT]; have h9 := tr_new (w := w) (w' := X) h; rwa [← hB] at h9)
  have d1 : ¬ 100 < (n : Int) := by omega
  have d1b : decide (100 < (n : Int)) = false := decide_eq_false d1
  have CN := hid_of (fun (X : World) (h : Below B w X) => (dr_new n z hn.1 (by omega) hz.1 hz.2 X).mono (R' := fun e w' => ∃ b, e = .returned (.tuple #[.pointer (some ⟨b, 0, none⟩), .int .i64 0]) ∧ DR B T w' b (newF n z) ∧ Below X.heap.size X w') (fun e w' ⟨b, q1, q2, q3⟩ => ⟨b, q1, by
    obtain ⟨SD, g1, g2⟩ := q2
    exact ⟨SD, g1, fun k hk => ⟨Nat.le_trans (Nat.le_trans HBL.out h.size) (g2 k hk).1, (g2 k hk).2.1, fun e => (g2 k hk).2.2 (Nat.lt_of_lt_of_le ((HTR.out w (Nat.le_refl _)).lt k e) h.size)⟩⟩, q3⟩))
  have dc1 : decide (a2 < 0) = false := decide_eq_false c1
  have dc2 : decide (a3 < 4) = false := decide_eq_false c2
  have dc3 : decide ((n : Int) < a2) = false := decide_eq_false c3
  have dc4 : decide ((n : Int) - a2 < a3) = false := decide_eq_false c4
  have dc5 : decide ((z : Int) < 64) = false := decide_eq_false c5
  have lw : IntKind.i64.wrap ((n : Int) - a2) = (n : Int) - a2 := IntWalk.i64_in _ (by omega)
  have CFL := hid_of (fun (X : World) (b : Nat) (h : w.heap.size ≤ X.heap.size) (d : DR B T X b (newF n z)) => (d.fail (HTR.out X h) 0 ⟨by decide, by decide⟩).mono (R' := fun e w' => e = .returned (.tuple #[]) ∧ DR B T w' b (failF (newF n z) 0) ∧ Below B X w') fun e w' ⟨q1, q2, q3, _⟩ => ⟨q1, q2, q3⟩)
  have CSY := hid_of (fun (X : World) (b : Nat) (h : w.heap.size ≤ X.heap.size) (d : DR B T X b (failF (newF n z) 0)) => show Calls Tryd.prog 26 #[.pointer (some ⟨b, 0, none⟩)] X (fun e w' => ∃ cd, e = .returned (.int .i64 cd) ∧ DR B T w' b (offM n z) ∧ Below B X w') from (d.sync (HTR.out X h) (by show 0 ≤ _; omega)).mono fun e w' ⟨q1, q2, q3, _⟩ => ⟨_, q1, q2, q3⟩)
  have CO := hid_of (fun (X : World) (b : Nat) (d : DR B T X b (offM n z)) => show Calls Tryd.prog 14 #[.pointer (some ⟨b, 0, none⟩), .int .i64 a2, .int .i64 a3] X (fun e w' => e = .returned (.tuple #[.pointer none, .int .i64 8]) ∧ Below X.heap.size X w') from by
    obtain ⟨o1, o2, o3⟩ := offM_eq n z
    exact open_off d a2 a3 c1 r2.2 c2 (by rw [o2]; exact c4) (by rw [o3]; omega) o1)
  clear hB hG AW hT
  go_enter Tryd.func8, Tryd.ntmps8
  go_wp2_with (first
    | (go_at_call 10; ((with_reducible refine (CAW.out).mono ?_); (rintro e w1 ⟨rfl, q1⟩)); have B1 := hid_of q1; clear q1)
    | (go_at_call 29; ((with_reducible refine (CN.out w1 B1.out).mono ?_); (rintro e w2 ⟨b, rfl, q2, q1⟩)); have D2 := hid_of q2; have B2 := hid_of (B1.out.trans (q1.mono (Nat.le_trans HBL.out B1.out.size))); clear q1 q2)
    | (go_at_call 25; ((with_reducible refine (CFL.out w2 b B2.out.size D2.out).mono ?_); (rintro e w3 ⟨rfl, q2, q1⟩)); have D3 := hid_of q2; have B3 := hid_of (B2.out.trans q1); clear q1 q2)
    | (go_at_call 26; ((with_reducible refine (CSY.out w3 b B3.out.size D3.out).mono ?_); (rintro e w4 ⟨cd, rfl, q2, q1⟩)); have D4 := hid_of q2; have B4 := hid_of (B3.out.trans q1); clear q1 q2)
    | (go_at_call 14; ((with_reducible refine (CO.out w4 b D4.out).mono ?_); (rintro e w5 ⟨rfl, q1⟩)); have B5 := hid_of (B4.out.trans (q1.mono (Nat.le_trans HBL.out B4.out.size))); clear q1))
  go_ret
  exact ⟨rfl, B5.out⟩
theorem op_f1 (AW : OpAW) (n z : Nat) (a2 a3 : Int) (w : World) (hG : Sh.Glob w) (hn : 1 ≤ n ∧ n ≤ 100) (hz : 16 ≤ z ∧ z ≤ 4096) (r2 : R64 a2) (r3 : R64 a3) (c1 : a2 < 0) : Calls Tryd.prog 8 #[.int .i64 n, .int .i64 z, .int .i64 a2, .int .i64 a3, .bool false] w (BoP true w) := by
  obtain ⟨B, hB⟩ : ∃ B, B = w.heap.size := ⟨_, rfl⟩
  have HBL := hid_of (show B ≤ w.heap.size by omega)
  have CAW := hid_of (show Calls Tryd.prog 10 #[] w (fun e w' => e = .returned (.bool true) ∧ Below B w w') from by rw [hB]; exact AW w hG)
  rw [show BoP true w = fun e w' => e = .returned (.bool true) ∧ Below B w w' from by rw [hB]]
  obtain ⟨T, hT⟩ : ∃ T : Nat → Prop, T = fun k => k < B := ⟨_, rfl⟩
  have HTR := hid_of (fun (X : World) (h : w.heap.size ≤ X.heap.size) => show TR B T X from by rw [hT]; have h9 := tr_new (w := w) (w' := X) h; rwa [← hB] at h9)
  have d1 : ¬ 100 < (n : Int) := by omega
  have d1b : decide (100 < (n : Int)) = false := decide_eq_false d1
  have CN := hid_of (fun (X : World) (h : Below B w X) => (dr_new n z hn.1 (by omega) hz.1 hz.2 X).mono (R' := fun e w' => ∃ b, e = .returned (.tuple #[.pointer (some ⟨b, 0, none⟩), .int .i64 0]) ∧ DR B T w' b (newF n z) ∧ Below X.heap.size X w') (fun e w' ⟨b, q1, q2, q3⟩ => ⟨b, q1, by
    obtain ⟨SD, g1, g2⟩ := q2
    exact ⟨SD, g1, fun k hk => ⟨Nat.le_trans (Nat.le_trans HBL.out h.size) (g2 k hk).1, (g2 k hk).2.1, fun e => (g2 k hk).2.2 (Nat.lt_of_lt_of_le ((HTR.out w (Nat.le_refl _)).lt k e) h.size)⟩⟩, q3⟩))
  have dc1 : decide (a2 < 0) = true := decide_eq_true c1
  have CO := hid_of (fun (X : World) (b : Nat) (d : DR B T X b (newF n z)) => show Calls Tryd.prog 14 #[.pointer (some ⟨b, 0, none⟩), .int .i64 a2, .int .i64 a3] X (fun e w' => e = .returned (.tuple #[.pointer none, .int .i64 1]) ∧ Below X.heap.size X w') from by
    have o2 := new_secs n z; have o3 : (newF n z).sz = z := rfl
    exact open_arg d a2 a3 r2.2 (by rw [o2, o3]; omega))
  clear hB hG AW hT
  go_enter Tryd.func8, Tryd.ntmps8
  go_wp2_with (first
    | (go_at_call 10; ((with_reducible refine (CAW.out).mono ?_); (rintro e w1 ⟨rfl, q1⟩)); have B1 := hid_of q1; clear q1)
    | (go_at_call 29; ((with_reducible refine (CN.out w1 B1.out).mono ?_); (rintro e w2 ⟨b, rfl, q2, q1⟩)); have D2 := hid_of q2; have B2 := hid_of (B1.out.trans (q1.mono (Nat.le_trans HBL.out B1.out.size))); clear q1 q2)
    | (go_at_call 14; ((with_reducible refine (CO.out w2 b D2.out).mono ?_); (rintro e w5 ⟨rfl, q1⟩)); have B5 := hid_of (B2.out.trans (q1.mono (Nat.le_trans HBL.out B2.out.size))); clear q1))
  go_ret
  exact ⟨rfl, B5.out⟩
theorem op_f2 (AW : OpAW) (n z : Nat) (a2 a3 : Int) (w : World) (hG : Sh.Glob w) (hn : 1 ≤ n ∧ n ≤ 100) (hz : 16 ≤ z ∧ z ≤ 4096) (r2 : R64 a2) (r3 : R64 a3) (c1 : ¬ a2 < 0) (c2 : a3 < 4) : Calls Tryd.prog 8 #[.int .i64 n, .int .i64 z, .int .i64 a2, .int .i64 a3, .bool false] w (BoP true w) := by
  obtain ⟨B, hB⟩ : ∃ B, B = w.heap.size := ⟨_, rfl⟩
  have HBL := hid_of (show B ≤ w.heap.size by omega)
  have CAW := hid_of (show Calls Tryd.prog 10 #[] w (fun e w' => e = .returned (.bool true) ∧ Below B w w') from by rw [hB]; exact AW w hG)
  rw [show BoP true w = fun e w' => e = .returned (.bool true) ∧ Below B w w' from by rw [hB]]
  obtain ⟨T, hT⟩ : ∃ T : Nat → Prop, T = fun k => k < B := ⟨_, rfl⟩
  have HTR := hid_of (fun (X : World) (h : w.heap.size ≤ X.heap.size) => show TR B T X from by rw [hT]; have h9 := tr_new (w := w) (w' := X) h; rwa [← hB] at h9)
  have d1 : ¬ 100 < (n : Int) := by omega
  have d1b : decide (100 < (n : Int)) = false := decide_eq_false d1
  have CN := hid_of (fun (X : World) (h : Below B w X) => (dr_new n z hn.1 (by omega) hz.1 hz.2 X).mono (R' := fun e w' => ∃ b, e = .returned (.tuple #[.pointer (some ⟨b, 0, none⟩), .int .i64 0]) ∧ DR B T w' b (newF n z) ∧ Below X.heap.size X w') (fun e w' ⟨b, q1, q2, q3⟩ => ⟨b, q1, by
    obtain ⟨SD, g1, g2⟩ := q2
    exact ⟨SD, g1, fun k hk => ⟨Nat.le_trans (Nat.le_trans HBL.out h.size) (g2 k hk).1, (g2 k hk).2.1, fun e => (g2 k hk).2.2 (Nat.lt_of_lt_of_le ((HTR.out w (Nat.le_refl _)).lt k e) h.size)⟩⟩, q3⟩))
  have dc1 : decide (a2 < 0) = false := decide_eq_false c1
  have dc2 : decide (a3 < 4) = true := decide_eq_true c2
  have CO := hid_of (fun (X : World) (b : Nat) (d : DR B T X b (newF n z)) => show Calls Tryd.prog 14 #[.pointer (some ⟨b, 0, none⟩), .int .i64 a2, .int .i64 a3] X (fun e w' => e = .returned (.tuple #[.pointer none, .int .i64 1]) ∧ Below X.heap.size X w') from by
    have o2 := new_secs n z; have o3 : (newF n z).sz = z := rfl
    exact open_arg d a2 a3 r2.2 (by rw [o2, o3]; omega))
  clear hB hG AW hT
  go_enter Tryd.func8, Tryd.ntmps8
  go_wp2_with (first
    | (go_at_call 10; ((with_reducible refine (CAW.out).mono ?_); (rintro e w1 ⟨rfl, q1⟩)); have B1 := hid_of q1; clear q1)
    | (go_at_call 29; ((with_reducible refine (CN.out w1 B1.out).mono ?_); (rintro e w2 ⟨b, rfl, q2, q1⟩)); have D2 := hid_of q2; have B2 := hid_of (B1.out.trans (q1.mono (Nat.le_trans HBL.out B1.out.size))); clear q1 q2)
    | (go_at_call 14; ((with_reducible refine (CO.out w2 b D2.out).mono ?_); (rintro e w5 ⟨rfl, q1⟩)); have B5 := hid_of (B2.out.trans (q1.mono (Nat.le_trans HBL.out B2.out.size))); clear q1))
  go_ret
  exact ⟨rfl, B5.out⟩
theorem op_f3 (AW : OpAW) (n z : Nat) (a2 a3 : Int) (w : World) (hG : Sh.Glob w) (hn : 1 ≤ n ∧ n ≤ 100) (hz : 16 ≤ z ∧ z ≤ 4096) (r2 : R64 a2) (r3 : R64 a3) (c1 : ¬ a2 < 0) (c2 : ¬ a3 < 4) (c3 : (n : Int) < a2) : Calls Tryd.prog 8 #[.int .i64 n, .int .i64 z, .int .i64 a2, .int .i64 a3, .bool false] w (BoP true w) := by
  obtain ⟨B, hB⟩ : ∃ B, B = w.heap.size := ⟨_, rfl⟩
  have HBL := hid_of (show B ≤ w.heap.size by omega)
  have CAW := hid_of (show Calls Tryd.prog 10 #[] w (fun e w' => e = .returned (.bool true) ∧ Below B w w') from by rw [hB]; exact AW w hG)
  rw [show BoP true w = fun e w' => e = .returned (.bool true) ∧ Below B w w' from by rw [hB]]
  obtain ⟨T, hT⟩ : ∃ T : Nat → Prop, T = fun k => k < B := ⟨_, rfl⟩
  have HTR := hid_of (fun (X : World) (h : w.heap.size ≤ X.heap.size) => show TR B T X from by rw [hT]; have h9 := tr_new (w := w) (w' := X) h; rwa [← hB] at h9)
  have d1 : ¬ 100 < (n : Int) := by omega
  have d1b : decide (100 < (n : Int)) = false := decide_eq_false d1
  have CN := hid_of (fun (X : World) (h : Below B w X) => (dr_new n z hn.1 (by omega) hz.1 hz.2 X).mono (R' := fun e w' => ∃ b, e = .returned (.tuple #[.pointer (some ⟨b, 0, none⟩), .int .i64 0]) ∧ DR B T w' b (newF n z) ∧ Below X.heap.size X w') (fun e w' ⟨b, q1, q2, q3⟩ => ⟨b, q1, by
    obtain ⟨SD, g1, g2⟩ := q2
    exact ⟨SD, g1, fun k hk => ⟨Nat.le_trans (Nat.le_trans HBL.out h.size) (g2 k hk).1, (g2 k hk).2.1, fun e => (g2 k hk).2.2 (Nat.lt_of_lt_of_le ((HTR.out w (Nat.le_refl _)).lt k e) h.size)⟩⟩, q3⟩))
  have dc1 : decide (a2 < 0) = false := decide_eq_false c1
  have dc2 : decide (a3 < 4) = false := decide_eq_false c2
  have dc3 : decide ((n : Int) < a2) = true := decide_eq_true c3
  have CO := hid_of (fun (X : World) (b : Nat) (d : DR B T X b (newF n z)) => show Calls Tryd.prog 14 #[.pointer (some ⟨b, 0, none⟩), .int .i64 a2, .int .i64 a3] X (fun e w' => e = .returned (.tuple #[.pointer none, .int .i64 1]) ∧ Below X.heap.size X w') from by
    have o2 := new_secs n z; have o3 : (newF n z).sz = z := rfl
    exact open_arg d a2 a3 r2.2 (by rw [o2, o3]; omega))
  clear hB hG AW hT
  go_enter Tryd.func8, Tryd.ntmps8
  go_wp2_with (first
    | (go_at_call 10; ((with_reducible refine (CAW.out).mono ?_); (rintro e w1 ⟨rfl, q1⟩)); have B1 := hid_of q1; clear q1)
    | (go_at_call 29; ((with_reducible refine (CN.out w1 B1.out).mono ?_); (rintro e w2 ⟨b, rfl, q2, q1⟩)); have D2 := hid_of q2; have B2 := hid_of (B1.out.trans (q1.mono (Nat.le_trans HBL.out B1.out.size))); clear q1 q2)
    | (go_at_call 14; ((with_reducible refine (CO.out w2 b D2.out).mono ?_); (rintro e w5 ⟨rfl, q1⟩)); have B5 := hid_of (B2.out.trans (q1.mono (Nat.le_trans HBL.out B2.out.size))); clear q1))
  go_ret
  exact ⟨rfl, B5.out⟩
theorem op_f4 (AW : OpAW) (n z : Nat) (a2 a3 : Int) (w : World) (hG : Sh.Glob w) (hn : 1 ≤ n ∧ n ≤ 100) (hz : 16 ≤ z ∧ z ≤ 4096) (r2 : R64 a2) (r3 : R64 a3) (c1 : ¬ a2 < 0) (c2 : ¬ a3 < 4) (c3 : ¬ (n : Int) < a2) (c4 : (n : Int) - a2 < a3) : Calls Tryd.prog 8 #[.int .i64 n, .int .i64 z, .int .i64 a2, .int .i64 a3, .bool false] w (BoP true w) := by
  obtain ⟨B, hB⟩ : ∃ B, B = w.heap.size := ⟨_, rfl⟩
  have HBL := hid_of (show B ≤ w.heap.size by omega)
  have CAW := hid_of (show Calls Tryd.prog 10 #[] w (fun e w' => e = .returned (.bool true) ∧ Below B w w') from by rw [hB]; exact AW w hG)
  rw [show BoP true w = fun e w' => e = .returned (.bool true) ∧ Below B w w' from by rw [hB]]
  obtain ⟨T, hT⟩ : ∃ T : Nat → Prop, T = fun k => k < B := ⟨_, rfl⟩
  have HTR := hid_of (fun (X : World) (h : w.heap.size ≤ X.heap.size) => show TR B T X from by rw [hT]; have h9 := tr_new (w := w) (w' := X) h; rwa [← hB] at h9)
  have d1 : ¬ 100 < (n : Int) := by omega
  have d1b : decide (100 < (n : Int)) = false := decide_eq_false d1
  have CN := hid_of (fun (X : World) (h : Below B w X) => (dr_new n z hn.1 (by omega) hz.1 hz.2 X).mono (R' := fun e w' => ∃ b, e = .returned (.tuple #[.pointer (some ⟨b, 0, none⟩), .int .i64 0]) ∧ DR B T w' b (newF n z) ∧ Below X.heap.size X w') (fun e w' ⟨b, q1, q2, q3⟩ => ⟨b, q1, by
    obtain ⟨SD, g1, g2⟩ := q2
    exact ⟨SD, g1, fun k hk => ⟨Nat.le_trans (Nat.le_trans HBL.out h.size) (g2 k hk).1, (g2 k hk).2.1, fun e => (g2 k hk).2.2 (Nat.lt_of_lt_of_le ((HTR.out w (Nat.le_refl _)).lt k e) h.size)⟩⟩, q3⟩))
  have dc1 : decide (a2 < 0) = false := decide_eq_false c1
  have dc2 : decide (a3 < 4) = false := decide_eq_false c2
  have dc3 : decide ((n : Int) < a2) = false := decide_eq_false c3
  have dc4 : decide ((n : Int) - a2 < a3) = true := decide_eq_true c4
  have lw : IntKind.i64.wrap ((n : Int) - a2) = (n : Int) - a2 := IntWalk.i64_in _ (by omega)
  have CO := hid_of (fun (X : World) (b : Nat) (d : DR B T X b (newF n z)) => show Calls Tryd.prog 14 #[.pointer (some ⟨b, 0, none⟩), .int .i64 a2, .int .i64 a3] X (fun e w' => e = .returned (.tuple #[.pointer none, .int .i64 1]) ∧ Below X.heap.size X w') from by
    have o2 := new_secs n z; have o3 : (newF n z).sz = z := rfl
    exact open_arg d a2 a3 r2.2 (by rw [o2, o3]; omega))
  clear hB hG AW hT
  go_enter Tryd.func8, Tryd.ntmps8
  go_wp2_with (first
    | (go_at_call 10; ((with_reducible refine (CAW.out).mono ?_); (rintro e w1 ⟨rfl, q1⟩)); have B1 := hid_of q1; clear q1)
    | (go_at_call 29; ((with_reducible refine (CN.out w1 B1.out).mono ?_); (rintro e w2 ⟨b, rfl, q2, q1⟩)); have D2 := hid_of q2; have B2 := hid_of (B1.out.trans (q1.mono (Nat.le_trans HBL.out B1.out.size))); clear q1 q2)
    | (go_at_call 14; ((with_reducible refine (CO.out w2 b D2.out).mono ?_); (rintro e w5 ⟨rfl, q1⟩)); have B5 := hid_of (B2.out.trans (q1.mono (Nat.le_trans HBL.out B2.out.size))); clear q1))
  go_ret
  exact ⟨rfl, B5.out⟩
theorem op_f5 (AW : OpAW) (n z : Nat) (a2 a3 : Int) (w : World) (hG : Sh.Glob w) (hn : 1 ≤ n ∧ n ≤ 100) (hz : 16 ≤ z ∧ z ≤ 4096) (r2 : R64 a2) (r3 : R64 a3) (c1 : ¬ a2 < 0) (c2 : ¬ a3 < 4) (c3 : ¬ (n : Int) < a2) (c4 : ¬ (n : Int) - a2 < a3) (c5 : (z : Int) < 64) : Calls Tryd.prog 8 #[.int .i64 n, .int .i64 z, .int .i64 a2, .int .i64 a3, .bool false] w (BoP true w) := by
  obtain ⟨B, hB⟩ : ∃ B, B = w.heap.size := ⟨_, rfl⟩
  have HBL := hid_of (show B ≤ w.heap.size by omega)
  have CAW := hid_of (show Calls Tryd.prog 10 #[] w (fun e w' => e = .returned (.bool true) ∧ Below B w w') from by rw [hB]; exact AW w hG)
  rw [show BoP true w = fun e w' => e = .returned (.bool true) ∧ Below B w w' from by rw [hB]]
  obtain ⟨T, hT⟩ : ∃ T : Nat → Prop, T = fun k => k < B := ⟨_, rfl⟩
  have HTR := hid_of (fun (X : World) (h : w.heap.size ≤ X.heap.size) => show TR B T X from by rw [hT]; have h9 := tr_new (w := w) (w' := X) h; rwa [← hB] at h9)
  have d1 : ¬ 100 < (n : Int) := by omega
  have d1b : decide (100 < (n : Int)) = false := decide_eq_false d1
  have CN := hid_of (fun (X : World) (h : Below B w X) => (dr_new n z hn.1 (by omega) hz.1 hz.2 X).mono (R' := fun e w' => ∃ b, e = .returned (.tuple #[.pointer (some ⟨b, 0, none⟩), .int .i64 0]) ∧ DR B T w' b (newF n z) ∧ Below X.heap.size X w') (fun e w' ⟨b, q1, q2, q3⟩ => ⟨b, q1, by
    obtain ⟨SD, g1, g2⟩ := q2
    exact ⟨SD, g1, fun k hk => ⟨Nat.le_trans (Nat.le_trans HBL.out h.size) (g2 k hk).1, (g2 k hk).2.1, fun e => (g2 k hk).2.2 (Nat.lt_of_lt_of_le ((HTR.out w (Nat.le_refl _)).lt k e) h.size)⟩⟩, q3⟩))
  have dc1 : decide (a2 < 0) = false := decide_eq_false c1
  have dc2 : decide (a3 < 4) = false := decide_eq_false c2
  have dc3 : decide ((n : Int) < a2) = false := decide_eq_false c3
  have dc4 : decide ((n : Int) - a2 < a3) = false := decide_eq_false c4
  have dc5 : decide ((z : Int) < 64) = true := decide_eq_true c5
  have lw : IntKind.i64.wrap ((n : Int) - a2) = (n : Int) - a2 := IntWalk.i64_in _ (by omega)
  have CO := hid_of (fun (X : World) (b : Nat) (d : DR B T X b (newF n z)) => show Calls Tryd.prog 14 #[.pointer (some ⟨b, 0, none⟩), .int .i64 a2, .int .i64 a3] X (fun e w' => e = .returned (.tuple #[.pointer none, .int .i64 1]) ∧ Below X.heap.size X w') from by
    have o2 := new_secs n z; have o3 : (newF n z).sz = z := rfl
    exact open_arg d a2 a3 r2.2 (by rw [o2, o3]; omega))
  clear hB hG AW hT
  go_enter Tryd.func8, Tryd.ntmps8
  go_wp2_with (first
    | (go_at_call 10; ((with_reducible refine (CAW.out).mono ?_); (rintro e w1 ⟨rfl, q1⟩)); have B1 := hid_of q1; clear q1)
    | (go_at_call 29; ((with_reducible refine (CN.out w1 B1.out).mono ?_); (rintro e w2 ⟨b, rfl, q2, q1⟩)); have D2 := hid_of q2; have B2 := hid_of (B1.out.trans (q1.mono (Nat.le_trans HBL.out B1.out.size))); clear q1 q2)
    | (go_at_call 14; ((with_reducible refine (CO.out w2 b D2.out).mono ?_); (rintro e w5 ⟨rfl, q1⟩)); have B5 := hid_of (B2.out.trans (q1.mono (Nat.le_trans HBL.out B2.out.size))); clear q1))
  go_ret
  exact ⟨rfl, B5.out⟩
theorem op_f6 (AW : OpAW) (n z : Nat) (a2 a3 : Int) (w : World) (hG : Sh.Glob w) (hn : 1 ≤ n ∧ n ≤ 100) (hz : 16 ≤ z ∧ z ≤ 4096) (r2 : R64 a2) (r3 : R64 a3) (c1 : ¬ a2 < 0) (c2 : ¬ a3 < 4) (c3 : ¬ (n : Int) < a2) (c4 : ¬ (n : Int) - a2 < a3) (c5 : ¬ (z : Int) < 64) : Calls Tryd.prog 8 #[.int .i64 n, .int .i64 z, .int .i64 a2, .int .i64 a3, .bool false] w (BoP true w) := by
  obtain ⟨B, hB⟩ : ∃ B, B = w.heap.size := ⟨_, rfl⟩
  have HBL := hid_of (show B ≤ w.heap.size by omega)
  have CAW := hid_of (show Calls Tryd.prog 10 #[] w (fun e w' => e = .returned (.bool true) ∧ Below B w w') from by rw [hB]; exact AW w hG)
  rw [show BoP true w = fun e w' => e = .returned (.bool true) ∧ Below B w w' from by rw [hB]]
  obtain ⟨T, hT⟩ : ∃ T : Nat → Prop, T = fun k => k < B := ⟨_, rfl⟩
  have HTR := hid_of (fun (X : World) (h : w.heap.size ≤ X.heap.size) => show TR B T X from by rw [hT]; have h9 := tr_new (w := w) (w' := X) h; rwa [← hB] at h9)
  have d1 : ¬ 100 < (n : Int) := by omega
  have d1b : decide (100 < (n : Int)) = false := decide_eq_false d1
  have CN := hid_of (fun (X : World) (h : Below B w X) => (dr_new n z hn.1 (by omega) hz.1 hz.2 X).mono (R' := fun e w' => ∃ b, e = .returned (.tuple #[.pointer (some ⟨b, 0, none⟩), .int .i64 0]) ∧ DR B T w' b (newF n z) ∧ Below X.heap.size X w') (fun e w' ⟨b, q1, q2, q3⟩ => ⟨b, q1, by
    obtain ⟨SD, g1, g2⟩ := q2
    exact ⟨SD, g1, fun k hk => ⟨Nat.le_trans (Nat.le_trans HBL.out h.size) (g2 k hk).1, (g2 k hk).2.1, fun e => (g2 k hk).2.2 (Nat.lt_of_lt_of_le ((HTR.out w (Nat.le_refl _)).lt k e) h.size)⟩⟩, q3⟩))
  have dc1 : decide (a2 < 0) = false := decide_eq_false c1
  have dc2 : decide (a3 < 4) = false := decide_eq_false c2
  have dc3 : decide ((n : Int) < a2) = false := decide_eq_false c3
  have dc4 : decide ((n : Int) - a2 < a3) = false := decide_eq_false c4
  have dc5 : decide ((z : Int) < 64) = false := decide_eq_false c5
  have lw : IntKind.i64.wrap ((n : Int) - a2) = (n : Int) - a2 := IntWalk.i64_in _ (by omega)
  obtain ⟨f, hf⟩ : ∃ f : Nat, a2 = f := ⟨a2.toNat, by omega⟩
  obtain ⟨ct, hct⟩ : ∃ ct : Nat, a3 = ct := ⟨a3.toNat, by omega⟩
  subst hf hct
  obtain ⟨q, hq⟩ : ∃ q, q = ct / 2 := ⟨_, rfl⟩
  obtain ⟨p, hp⟩ : ∃ p, p = q - 1 := ⟨_, rfl⟩
  obtain ⟨Rm, hR⟩ : ∃ Rm, Rm = p * z := ⟨_, rfl⟩
  have hR9 : Rm ≤ 100 * 4096 := by rw [hR]; exact Nat.mul_le_mul (by omega) hz.2
  have e1 : (ct : Int).tdiv 2 = (q : Int) := by rw [Int.tdiv_eq_ediv_of_nonneg (by omega)]; omega
  have ct9 : ct ≤ 65536 := by omega
  have f9 : f ≤ 65536 := by omega
  have e1w : IntKind.i64.wrap (q : Int) = (q : Int) := IntWalk.i64_in _ (by omega)
  have e2 : IntKind.i64.wrap ((q : Int) - 1) = (p : Int) := by rw [show (q : Int) - 1 = (p : Int) by omega]; exact IntWalk.i64_in _ (by omega)
  have e2b : (q : Int) - 1 = (p : Int) := by omega
  have e2w : IntKind.i64.wrap (p : Int) = (p : Int) := IntWalk.i64_in _ (by omega)
  have e3 : IntKind.i64.wrap ((p : Int) * (z : Int)) = (Rm : Int) := by rw [← Int.natCast_mul, ← hR]; exact IntWalk.i64_in _ (by omega)
  have e3b : (p : Int) * (z : Int) = (Rm : Int) := by rw [← Int.natCast_mul, ← hR]
  have e3w : IntKind.i64.wrap (Rm : Int) = (Rm : Int) := IntWalk.i64_in _ (by omega)
  have CO := hid_of (fun (X : World) (b : Nat) (h : w.heap.size ≤ X.heap.size) (hX : Below B w X) (d : DR B T X b (newF n z)) => show Calls Tryd.prog 14 #[.pointer (some ⟨b, 0, none⟩), .int .i64 (f : Nat), .int .i64 (ct : Nat)] X (fun e w' => ∃ cb, e = .returned (.tuple #[.pointer (some ⟨cb, 0, none⟩), .int .i64 0]) ∧ CKR B T w' cb b (newF n z) f q 1 [] 0 true ∧ Below X.heap.size X w') from by
    have h9 := open_yes (f := f) (ct := ct) d (HTR.out X h) ⟨by rw [new_secs]; omega, by omega⟩ (by show 64 ≤ z; omega) rfl (by show 0 ≤ _; omega) (rng_new n z) (hG.bel hX (by rw [hB]; exact hG.two))
    rw [show newestF (slD (newF n z) f (ct / 2)) (slD (newF n z) (f + ct / 2) (ct / 2)) = ([], 0, 1) from new_nwD n z f (ct / 2) (by omega), ← hq] at h9
    exact h9)
  have CLD := hid_of (fun (X : World) (cb b : Nat) (h : CKR B T X cb b (newF n z) f q 1 [] 0 true) => show Calls Tryd.prog 15 #[.pointer (some ⟨cb, 0, none⟩)] X (fun e w' => ∃ x c, e = .returned (.tuple #[.slice x 0 c, .int .i64 0]) ∧ Below X.heap.size X w') from h.load.mono fun e w' ⟨x, k, c, g1, g2, g3⟩ => ⟨x, c, by have h9 := (rd_cut g2.1).1; rw [by8_length] at h9; have h9 : k = 0 := h9; subst h9; exact g1, g3⟩)
  have CRM := hid_of (fun (X : World) (cb b : Nat) (h : CKR B T X cb b (newF n z) f q 1 [] 0 true) => show Calls Tryd.prog 18 #[.pointer (some ⟨cb, 0, none⟩)] X (fun e w' => e = .returned (.int .i64 (Rm : Nat)) ∧ Below X.heap.size X w') from by have h9 := h.room; rw [show (newF n z).sz = z from rfl, ← hp, ← hR] at h9; exact h9)
  clear hB hG AW hT hq hp hR
  go_enter Tryd.func8, Tryd.ntmps8
  go_wp2_with (first
    | (go_at_call 10; ((with_reducible refine (CAW.out).mono ?_); (rintro e w1 ⟨rfl, q1⟩)); have B1 := hid_of q1; clear q1)
    | (go_at_call 29; ((with_reducible refine (CN.out w1 B1.out).mono ?_); (rintro e w2 ⟨b, rfl, q2, q1⟩)); have D2 := hid_of q2; have B2 := hid_of (B1.out.trans (q1.mono (Nat.le_trans HBL.out B1.out.size))); clear q1 q2)
    | (go_at_call 14; ((with_reducible refine (CO.out w2 b B2.out.size B2.out D2.out).mono ?_); (rintro e w5 ⟨cb, rfl, q2, q1⟩)); have L5 := hid_of q2; have B5 := hid_of (B2.out.trans (q1.mono (Nat.le_trans HBL.out B2.out.size))); clear q1 q2)
    | (go_at_call 15; ((with_reducible refine (CLD.out w5 cb b L5.out).mono ?_); (rintro e w6 ⟨x6, c6, rfl, q1⟩)); have L6 := hid_of (L5.out.bel0 q1); have B6 := hid_of (B5.out.trans (q1.mono (Nat.le_trans HBL.out B5.out.size))); clear q1)
    | (go_at_call 18; ((with_reducible refine (CRM.out w6 cb b L6.out).mono ?_); (rintro e w7 ⟨rfl, q1⟩)); have B7 := hid_of (B6.out.trans (q1.mono (Nat.le_trans HBL.out B6.out.size))); clear q1))
  go_ret
  exact ⟨rfl, B7.out⟩
theorem opens_law (AW : OpAW) (a0 a1 a2 a3 : Int) (dn : Bool) (w : World) (hG : Sh.Glob w) (w0 : (Lit.int .i64 a0).wf = true) (w1 : (Lit.int .i64 a1).wf = true) (w2 : (Lit.int .i64 a2).wf = true) (w3 : (Lit.int .i64 a3).wf = true) : Calls Tryd.prog 8 #[.int .i64 a0, .int .i64 a1, .int .i64 a2, .int .i64 a3, .bool dn] w (BoP true w) := by
  have r0 := wf_r64 w0
  have r1 := wf_r64 w1
  have r2 := wf_r64 w2
  have r3 := wf_r64 w3
  by_cases hb : 100 < a0
  · exact op_big AW a0 a1 a2 a3 dn w hG hb
  by_cases hv : (1 ≤ a0 ∧ a0 ≤ 65536) ∧ 16 ≤ a1 ∧ a1 ≤ 4096
  · obtain ⟨n, rfl⟩ : ∃ n : Nat, a0 = n := ⟨a0.toNat, by omega⟩
    obtain ⟨z, rfl⟩ : ∃ z : Nat, a1 = z := ⟨a1.toNat, by omega⟩
    have hn : 1 ≤ n ∧ n ≤ 100 := by omega
    have hz : 16 ≤ z ∧ z ≤ 4096 := by omega
    by_cases c1 : a2 < 0
    · cases dn; exact op_f1 AW n z a2 a3 w hG hn hz r2 r3 c1; exact op_t1 AW n z a2 a3 w hG hn hz r2 r3 c1
    by_cases c2 : a3 < 4
    · cases dn; exact op_f2 AW n z a2 a3 w hG hn hz r2 r3 c1 c2; exact op_t2 AW n z a2 a3 w hG hn hz r2 r3 c1 c2
    by_cases c3 : (n : Int) < a2
    · cases dn; exact op_f3 AW n z a2 a3 w hG hn hz r2 r3 c1 c2 c3; exact op_t3 AW n z a2 a3 w hG hn hz r2 r3 c1 c2 c3
    by_cases c4 : (n : Int) - a2 < a3
    · cases dn; exact op_f4 AW n z a2 a3 w hG hn hz r2 r3 c1 c2 c3 c4; exact op_t4 AW n z a2 a3 w hG hn hz r2 r3 c1 c2 c3 c4
    by_cases c5 : (z : Int) < 64
    · cases dn; exact op_f5 AW n z a2 a3 w hG hn hz r2 r3 c1 c2 c3 c4 c5; exact op_t5 AW n z a2 a3 w hG hn hz r2 r3 c1 c2 c3 c4 c5
    · cases dn; exact op_f6 AW n z a2 a3 w hG hn hz r2 r3 c1 c2 c3 c4 c5; exact op_t6 AW n z a2 a3 w hG hn hz r2 r3 c1 c2 c3 c4 c5
  · exact op_bad AW a0 a1 a2 a3 dn w hG hb r0 r1 hv
end Go.Proofs.YtlffiebnieakjaaDoor

/- The law Survives, whatever the example gives. Bounds on sizes alone. -/
namespace Go.Proofs.YtlffiebnieakjaaDoor
open Go.RowKit
set_option maxRecDepth 100000
set_option maxHeartbeats 12800000

theorem make_over (s : Nat) (hs : s ≤ 255) (a : Option Addr) (len cap : Nat) (w : World) (h20 : 20 < len) (h9 : len ≤ 9223372036854775807) :
    Calls Tryd.prog 11 #[.int .u8 s, .slice a len cap] w fun e w' => e = .returned (.pointer none) ∧ Below w.heap.size w w' := by
  obtain ⟨L, hL⟩ : ∃ L, L = 8 + s % 8 := ⟨_, rfl⟩
  obtain ⟨z, hz⟩ : ∃ z, z = 64 + s / 8 := ⟨_, rfl⟩
  obtain ⟨p, hp⟩ : ∃ p, p = s % 8 := ⟨_, rfl⟩
  obtain ⟨q, hq⟩ : ∃ q, q = s / 8 := ⟨_, rfl⟩
  have m1 : (s : Int) % 8 = (p : Int) := by omega
  have m2 : (s : Int) / 8 = (q : Int) := by omega
  have m1t : (s : Int).tmod 8 = (p : Int) := by rw [Int.tmod_eq_emod_of_nonneg (by omega), m1]
  have m2t : (s : Int).tdiv 8 = (q : Int) := by rw [Int.tdiv_eq_ediv_of_nonneg (by omega), m2]
  have m3 : IntKind.i64.wrap (8 + (p : Int)) = (L : Int) := by rw [show 8 + (p : Int) = (L : Int) by omega]; exact IntWalk.i64_in _ (by omega)
  have m3b : 8 + (p : Int) = (L : Int) := by omega
  have m4 : IntKind.i64.wrap (64 + (q : Int)) = (z : Int) := by rw [show 64 + (q : Int) = (z : Int) by omega]; exact IntWalk.i64_in _ (by omega)
  have m4b : 64 + (q : Int) = (z : Int) := by omega
  have CN := hid_of (dr_new L z (by omega) (by omega) (by omega) (by omega) w)
  have p8 : p < 8 := by omega
  have q32 : q < 32 := by omega
  have d1 : (20 : Int) < (len : Int) := by omega
  have d1b : decide ((20 : Int) < (len : Int)) = true := decide_eq_true d1
  clear hL hz hp hq hs
  go_enter Tryd.func11, Tryd.ntmps11
  go_wp2_with (first
    | (go_at_call 29; (((with_reducible refine (CN.out).mono ?_); (rintro e w1 ⟨b, rfl, q1, q2⟩)); have B1 := hid_of q2; clear q1 q2)))
  go_ret
  exact ⟨rfl, B1.out⟩
theorem slot_byt {h d c : List Int} {g : Nat} (hd : Byt d) (e : slotF Sh.digest h d = some (c, g)) : Byt c := by
  unfold slotF at e
  simp only [] at e
  split at e
  · cases e
  · cases e
    exact fun x hx => hd x (List.mem_of_mem_take hx)
theorem nw_byt {M : DM} {f n i g : Nat} {c : List Int} (hr : RngM M) (h : nwD M f n = (c, g, i)) : Byt c := by
  have ha : ∀ f c g, slD M f n = some (c, g) → Byt c := fun f c g e => by
    unfold slD at e
    exact slot_byt (areaF_byt (fun i => rng_flat hr _) _) e
  unfold nwD at h
  cases e1 : slD M f n with
  | none =>
    cases e2 : slD M (f + n) n with
    | none => rw [e1, e2] at h; cases h; intro x hx; simp at hx
    | some y => rw [e1, e2] at h; cases h; exact ha _ _ _ e2
  | some x =>
    cases e2 : slD M (f + n) n with
    | none => rw [e1, e2] at h; cases h; exact ha _ _ _ e1
    | some y =>
      rw [e1, e2] at h
      simp only [newestF] at h
      split at h
      · cases h; exact ha _ _ _ e1
      · cases h; exact ha _ _ _ e2
theorem surv_law (AW : OpAW) (s : Nat) (hs : s ≤ 255) (a0 : Option Addr) (n0 c0 : Nat) (R : List (List Int)) (a1 : Option Addr) (n1 c1 : Nat) (ls : List StX) (w : World) (hG : Sh.Glob w) (rR : RB (fun k => k < w.heap.size) w (.slice a0 n0 c0) R) (bR : ∀ l ∈ R, Byt l) (rs : StsIn w.heap.size w a1 n1 c1 ls) :
    Calls Tryd.prog 6 #[.int .u8 s, .slice a0 n0 c0, .slice a1 n1 c1] w (BoP true w) := by
  obtain ⟨L, hL⟩ : ∃ L, L = 8 + s % 8 := ⟨_, rfl⟩
  obtain ⟨z, hz⟩ : ∃ z, z = 64 + s / 8 := ⟨_, rfl⟩
  obtain ⟨ct, hct⟩ : ∃ ct, ct = L - 1 := ⟨_, rfl⟩
  obtain ⟨n, hn⟩ : ∃ n, n = ct / 2 := ⟨_, rfl⟩
  have hL2 : 8 ≤ L ∧ L ≤ 15 := by omega
  have hz2 : 64 ≤ z ∧ z ≤ 95 := by omega
  have hn2 : 3 ≤ n ∧ n ≤ 7 ∧ 1 + n + n ≤ L := by omega
  obtain ⟨Rm, hRm⟩ : ∃ Rm, Rm = (n - 1) * z := ⟨_, rfl⟩
  have hR6 : Rm ≤ 6 * 95 := by rw [hRm]; exact Nat.mul_le_mul (by omega) hz2.2
  obtain ⟨B, hB⟩ : ∃ B, B = w.heap.size := ⟨_, rfl⟩
  have hB2 : 2 ≤ B := by rw [hB]; exact hG.two
  obtain ⟨T0, hT0⟩ : ∃ T : Nat → Prop, T = fun k => k < B := ⟨_, rfl⟩
  have HTR := hid_of (fun (X : World) (h : w.heap.size ≤ X.heap.size) => show TR B T0 X from by rw [hT0]; have h9 := tr_new (w := w) (w' := X) h; rwa [← hB] at h9)
  have HG := hid_of (fun (X : World) (h : Below B w X) => hG.bel h hB2)
  have HBL := hid_of (show B ≤ w.heap.size by omega)
  have n0l := rR.len
  have CAW := hid_of (show Calls Tryd.prog 10 #[] w (fun e w' => e = .returned (.bool true) ∧ Below B w w') from by rw [hB]; exact AW w hG)
  rw [show BoP true w = fun e w' => e = .returned (.bool true) ∧ Below B w w' from by rw [hB]]
  have n19 : n1 ≤ 9223372036854775807 := by have := rs.2.1; have := rs.2.2.1; omega
  have n09 : n0 ≤ 9223372036854775807 := by omega
  by_cases h20 : 20 < n0
  · have CMK := hid_of (fun (X : World) => make_over s hs a0 n0 c0 X h20 n09)
    have d2 : decide ((20 : Int) < (n0 : Int)) = true := decide_eq_true (by omega)
    have d2b : (20 : Int) < (n0 : Int) := by omega
    clear rR bR rs AW hG hB hT0 hL hz hct hn hRm h20 n0l
    go_enter Tryd.func6, Tryd.ntmps6
    go_wp2_with (first
      | (go_at_call 10; ((with_reducible refine (CAW.out).mono ?_); (rintro e w1 ⟨rfl, q1⟩)); have B1 := hid_of q1; clear q1)
      | (go_at_call 11; ((with_reducible refine (CMK.out w1).mono ?_); (rintro e w2 ⟨rfl, q1⟩)); have B2 := hid_of (B1.out.trans (q1.mono (Nat.le_trans HBL.out B1.out.size))); clear q1))
    go_ret
    exact ⟨rfl, B2.out⟩
  have HRB := hid_of (fun (X : World) (hX : Below B w X) => show RB (fun k => k < B) X (.slice a0 n0 c0) R from by
    rw [hB]
    exact rR.keep (w' := X) ⟨hX.size, fun k hk _ => hX.block k (by rw [hB]; exact hk)⟩)
  have CMK := hid_of (fun (X : World) (h : Below B w X) => show Calls Tryd.prog 11 #[.int .u8 s, .slice a0 n0 c0] X (fun e w' => ∃ b, e = .returned (.pointer (some ⟨b, 0, none⟩)) ∧ DR B T0 w' b (mkM L z R) ∧ Below B X w') from by
    rw [hL, hz]
    exact make_any s hs a0 n0 c0 R X (HTR.out X h.size) (HRB.out X h) (by omega))
  have d2 : decide ((20 : Int) < (n0 : Int)) = false := decide_eq_false (by omega)
  have d2b : ¬ (20 : Int) < (n0 : Int) := by omega
  by_cases h40 : 40 < n1
  · have d3 : decide ((40 : Int) < (n1 : Int)) = true := decide_eq_true (by omega)
    have d3b : (40 : Int) < (n1 : Int) := by omega
    clear rR bR rs AW hG hB hT0 hL hz hct hn hRm h20 h40 n0l
    go_enter Tryd.func6, Tryd.ntmps6
    go_wp2_with (first
      | (go_at_call 10; ((with_reducible refine (CAW.out).mono ?_); (rintro e w1 ⟨rfl, q1⟩)); have B1 := hid_of q1; clear q1)
      | (go_at_call 11; ((with_reducible refine (CMK.out w1 B1.out).mono ?_); (rintro e w2 ⟨b, rfl, q1, q2⟩)); have B2 := hid_of (B1.out.trans q2); clear q1 q2))
    go_ret
    exact ⟨rfl, B2.out⟩
  have d3 : decide ((40 : Int) < (n1 : Int)) = false := decide_eq_false (by omega)
  have d3b : ¬ (40 : Int) < (n1 : Int) := by omega
  have n1m : n1 ≤ 40 := by omega
  have HSZ := hid_of (show 64 ≤ z ∧ z ≤ 95 ∧ (n - 1) * z ≤ 30000 ∧ 3 ≤ n ∧ n ≤ 7 ∧ 1 + n + n ≤ L ∧ 1 + ct ≤ L ∧ 4 ≤ ct ∧ n = ct / 2 ∧ (n - 1) * z = Rm ∧ Rm ≤ 6 * 95 ∧ 2 ≤ B by omega)
  have HRS := hid_of (fun (i : Nat) (hi : i < n1) => show ∃ (g o : Nat) (x : StX), ls[i]? = some x ∧ a1 = some ⟨g, o, none⟩ ∧ ∀ X, Below B w X → X.cell? ⟨g, o + i * 4, none⟩ = some (.int .i64 x.kd) ∧ X.cell? ⟨g, o + i * 4 + 1, none⟩ = some x.bv ∧ X.cell? ⟨g, o + i * 4 + 2, none⟩ = some (.int .i64 x.nn) ∧ X.cell? ⟨g, o + i * 4 + 3, none⟩ = some x.kv ∧ x.ok B X from by rw [hB]; exact rs.get hi)
  have HMR := hid_of (show RngM (mkM L z R) from mkM_rng L z bR)
  -- contracts on a disk of the law's size
  have CSC := hid_of (fun (T : Nat → Prop) (X : World) (b : Nat) (M : DM) (hM : M.secs.length = L) (d : DR B T X b M) => show Calls Tryd.prog 12 #[.pointer (some ⟨b, 0, none⟩)] X (fun e w' => e = .returned (.int .i64 (L : Nat)) ∧ Below X.heap.size X w') from by rw [← hM]; exact d.sectors)
  have COP := hid_of (fun (T : Nat → Prop) (X : World) (b i g : Nat) (c : List Int) (M : DM) (h : Below B w X) (t : TR B T X) (d : DR B T X b M) (hl : M.secs.length = L) (hzz : M.sz = z) (hc : M.cache = []) (ho : M.off = false) (hr : RngM M) (hnw : nwD M 1 n = (c, g, i)) => show Calls Tryd.prog 14 #[.pointer (some ⟨b, 0, none⟩), .int .i64 1, .int .i64 (ct : Nat)] X (fun e w' => ∃ cb, e = .returned (.tuple #[.pointer (some ⟨cb, 0, none⟩), .int .i64 0]) ∧ LV B T w' cb b M 1 n i c g ∧ Below X.heap.size X w') from by
    obtain ⟨z1, z2, z3, z4, z5, z6, z7, z8, z9, zA, zB, zC⟩ := HSZ.out
    have h9 := lv_open (f := 1) (ct := ct) d t ⟨by rw [hl]; omega, by omega⟩ (by rw [hzz]; omega) (by rw [← z9, hzz]; exact z3) ho hc hr (HG.out X h)
    rw [← z9, hnw] at h9
    exact h9)
  have CLD := hid_of (fun (T : Nat → Prop) (X : World) (cb b i g : Nat) (M : DM) (c : List Int) (h : LV B T X cb b M 1 n i c g) => show Calls Tryd.prog 15 #[.pointer (some ⟨cb, 0, none⟩)] X (fun e w' => ∃ x k m, e = .returned (.tuple #[.slice x k m, .int .i64 (g : Nat)]) ∧ CR (Tn T X w') w' (.slice x k m) c ∧ Below X.heap.size X w') from h.st.load.mono fun e w' ⟨x, k, m, q1, q2, q3⟩ => ⟨x, k, m, q1, q2.lt.mono fun k hk => Or.inr hk, q3⟩)
  obtain ⟨N, hN⟩ : ∃ N, N = nwD (mkM L z R) 1 n := ⟨_, rfl⟩
  obtain ⟨cN, gN, iN⟩ := N
  have HN := hid_of hN.symm
  have ctm : IntKind.i64.wrap ((L : Int) - 1) = (ct : Int) := by rw [show (L : Int) - 1 = (ct : Int) by omega]; exact IntWalk.i64_in _ (by omega)
  have ctb : (L : Int) - 1 = (ct : Int) := by omega
  have ct14 : ct ≤ 14 := by omega
  have HML := hid_of (mkM_len L z R)
  have HMZ := hid_of (show (mkM L z R).sz = z from mkM_sz L z R)
  have HMC := hid_of (show 0 = (mkM L z R).cache.length by rw [mkM_cache]; rfl)
  have HMO := hid_of (show (mkM L z R).off = false from (mkM_nf L z R).1)
  have HCN := hid_of (show Byt cN from nw_byt HMR.out hN.symm)
  clear rR bR rs AW hG hB hT0 hL hz hct hn hRm h20 h40 n0l hN hz2 hn2 hR6 hB2 hs
  go_enter Tryd.func6, Tryd.ntmps6
  go_wp2_with (first
    | (go_at_call 10; ((with_reducible refine (CAW.out).mono ?_); (rintro e w1 ⟨rfl, q1⟩)); have B1 := hid_of q1; clear q1)
    | (go_at_call 11; ((with_reducible refine (CMK.out w1 B1.out).mono ?_); (rintro e w2 ⟨b, rfl, q1, q2⟩)); have D2 := hid_of q1; have B2 := hid_of (B1.out.trans q2); clear q1 q2)
    | (go_at_call 12; ((with_reducible refine (CSC.out T0 w2 b (mkM L z R) HML.out D2.out).mono ?_); (rintro e w3 ⟨rfl, q2⟩)); have D3 := hid_of (D2.out.bel0 q2); have B3 := hid_of (B2.out.trans (q2.mono (Nat.le_trans HBL.out B2.out.size))); clear q2)
    | (go_at_call 14; go_loud (((with_reducible refine (COP.out T0 w3 b iN gN cN (mkM L z R) B3.out (HTR.out w3 B3.out.size) D3.out HML.out HMZ.out (List.length_eq_zero_iff.1 HMC.out.symm) HMO.out HMR.out HN.out).mono ?_); (rintro e w4 ⟨cb, rfl, q1, q2⟩)); have L4 := hid_of q1; have B4 := hid_of (B3.out.trans (q2.mono (Nat.le_trans HBL.out B3.out.size))); clear q1 q2))
    | (go_at_call 15; ((with_reducible refine (CLD.out T0 w4 cb b iN gN (mkM L z R) cN L4.out).mono ?_); (rintro e w5 ⟨xa, xn, xc, rfl, q1, q2⟩)); have R5 := hid_of q1; have L5 := hid_of (L4.out.bel q2); have B5 := hid_of (B4.out.trans (q2.mono (Nat.le_trans HBL.out B4.out.size))); have T5 := hid_of ((HTR.out w4 B4.out.size).next q2.size); clear q1 q2))
  have S5 := hid_of (show RunV B (Tn T0 w4 w5) w5 w cb b n L z (.slice xa xn xc) (.slice none 0 0) false from ⟨T5.out, B5.out, mkM L z R, iN, gN, cN, HMZ.out, HML.out, R5.out, HCN.out, Or.inl ⟨rfl, L5.out⟩⟩)
  generalize Tn T0 w4 w5 = T1 at *
  go_loopw [8, 10, 12, 13, 14] (fun cv nv xv tv iv wr => ∃ (i cb : Nat) (T : Nat → Prop) (na : Option Addr) (nn_ nc : Nat) (ya : Option Addr) (yn yc : Nat) (torn : Bool), cv = .pointer (some ⟨cb, 0, none⟩) ∧ nv = .slice na nn_ nc ∧ xv = .slice ya yn yc ∧ tv = .bool torn ∧ iv = .int .i64 i ∧ Hid (i ≤ n1) ∧ Hid (RunV B T wr w cb b n L z (.slice na nn_ nc) (.slice ya yn yc) torn)) (fun _ _ _ _ iv _ => 100 - (intOf iv).toNat)
  case atStart => exact ⟨0, cb, T1, xa, xn, xc, none, 0, 0, false, rfl, rfl, rfl, rfl, rfl, hid_of (Nat.zero_le _), S5⟩
  case round =>
    obtain ⟨i, cb, T, na, nn_, nc, ya, yn, yc, torn, rfl, rfl, rfl, rfl, rfl, hi, hrun⟩ := hrel
    have hi9 : i ≤ 40 := by have := hi.out; omega
    by_cases hlt : i < n1
    · have f1 : decide ((i : Int) < (n1 : Int)) = true := decide_eq_true (by omega)
      have f1b : (i : Int) < (n1 : Int) := by omega
      have HLT := hid_of hlt
      clear hlt
      obtain ⟨g1, o1, x, hx, e1, hcl⟩ := HRS.out i HLT.out
      obtain ⟨c0', c1', c2', c3', xok0⟩ := hcl wr hrun.out.bel
      subst e1
      obtain ⟨k, v, bl, nn, kv, kl⟩ := x
      simp only [] at c0' c1' c2' c3'
      obtain ⟨bo, bc, e2, _⟩ := xok0.cb.1
      simp only [] at e2
      subst e2
      obtain ⟨ko, kc, e3, _⟩ := xok0.kp.1
      simp only [] at e3
      subst e3
      have HXY := hid_of xok0.by_
      have HNN := hid_of xok0.nn
      have HXC := hid_of (fun (X : World) (h : Below B w X) => (show CR (fun k => k < B) X _ bl ∧ _ from ⟨(hcl X h).2.2.2.2.cb, (hcl X h).2.2.2.2.kp⟩))
      simp only [] at HXC
      obtain ⟨bn, hbn⟩ : ∃ m, m = (by8 bl).length := ⟨_, rfl⟩
      obtain ⟨kn, hkn⟩ : ∃ m, m = (bls kl).length := ⟨_, rfl⟩
      have HBN := hid_of (show bn = bl.length by rw [hbn, by8_length])
      rw [← hbn] at c1' HXC
      rw [← hkn] at c3' HXC
      have bw := bel_alloc wr (.cells #[.int .i64 k, .slice bo bn bc, .int .i64 nn, .slice ko kn kc] 54)
      have hws : (wr.alloc (.cells #[.int .i64 k, .slice bo bn bc, .int .i64 nn, .slice ko kn kc] 54)).heap.size = wr.heap.size + 1 := by simp
      have R1 := hrun.out.next bw
      have XC1 := HXC.out _ R1.bel
      have ht : Tn T wr (wr.alloc (.cells #[.int .i64 k, .slice bo bn bc, .int .i64 nn, .slice ko kn kc] 54)) wr.heap.size := Or.inr ⟨Nat.le_refl _, by rw [hws]; exact Nat.lt_succ_self _⟩
      obtain ⟨T1, hT1⟩ : ∃ T1, T1 = Tn T wr (wr.alloc (.cells #[.int .i64 k, .slice bo bn bc, .int .i64 nn, .slice ko kn kc] 54)) := ⟨_, rfl⟩
      rw [← hT1] at R1 ht
      have hin : CR T1 (wr.alloc (.cells #[.int .i64 k, .slice bo bn bc, .int .i64 nn, .slice ko kn kc] 54)) (.slice bo bn bc) bl := XC1.1.mono fun k hk => R1.tr.low k hk
      have hkp : Rd (wr.alloc (.cells #[.int .i64 k, .slice bo bn bc, .int .i64 nn, .slice ko kn kc] 54)) (.slice ko kn kc) (bls kl) ∧ (0 < (bls kl).length → In T1 (.slice ko kn kc)) := ⟨XC1.2.1, fun h0 => (XC1.2.2 (by rw [hkn]; exact h0)).mono fun k hk => R1.tr.low k hk⟩
      obtain ⟨z1, z2, z3, z4, z5, z6, z7, z8, z9, zA, zB, zC⟩ := HSZ.out
      have hs1 := R1.save hin HXY.out (HG.out _ R1.bel) zC (by omega)
      have hcell : (wr.alloc (.cells #[.int .i64 k, .slice bo bn bc, .int .i64 nn, .slice ko kn kc] 54)).cell? ⟨wr.heap.size, 1, none⟩ = some (.slice bo bn bc) := cell_blk (cs := [.int .i64 k, .slice bo bn bc, .int .i64 nn, .slice ko kn kc]) (heap_alloc_new wr _) rfl
      have CSV := hid_of (show Calls Tryd.prog 22 #[.pointer (some ⟨cb, 0, none⟩), .slice bo bn bc] (wr.alloc (.cells #[.int .i64 k, .slice bo bn bc, .int .i64 nn, .slice ko kn kc] 54)) (fun e w' => w'.cell? ⟨wr.heap.size, 1, none⟩ = some (.slice bo bn bc) ∧
        ((e = .returned (.int .i64 6) ∧ torn = false ∧ RunV B T1 w' w cb b n L z (.slice na nn_ nc) (.slice ya yn yc) false) ∨
         (e = .returned (.int .i64 0) ∧ RunV B T1 w' w cb b n L z (.slice bo bn bc) (.slice ya yn yc) false) ∨
         (e = .returned (.int .i64 8) ∧ torn = false ∧ bn ≤ Rm ∧ RunV B T1 w' w cb b n L z (.slice na nn_ nc) (.slice bo bn bc) true) ∨
         (e = .returned (.int .i64 8) ∧ torn = true ∧ RunV B T1 w' w cb b n L z (.slice na nn_ nc) (.slice ya yn yc) true))) from by
        refine hs1.mono fun e w' ⟨q1, q2⟩ => ⟨box_kept q1 ht (by simp) hcell, ?_⟩
        rcases q2 with h9 | h9 | ⟨h9, h8, h7, h6⟩ | h9
        · exact Or.inl h9
        · exact Or.inr (Or.inl h9)
        · exact Or.inr (Or.inr (Or.inl ⟨h9, h8, by rw [HBN.out, ← zA]; exact h7, h6⟩))
        · exact Or.inr (Or.inr (Or.inr h9)))
      have CFL := hid_of (R1.fail nn HNN.out)
      have CCR := hid_of (R1.crash hkp)
      have CRM := hid_of (fun (X : World) (now nxt : Value) (torn : Bool) (h : RunV B T1 X w cb b n L z now nxt torn) => show Calls Tryd.prog 18 #[.pointer (some ⟨cb, 0, none⟩)] X (fun e w' => e = .returned (.int .i64 (Rm : Nat)) ∧ Below X.heap.size X w') from by rw [← zA]; exact h.room)
      have HR1 := hid_of R1
      have HTB := hid_of ht
      clear hs1 hcell hkp hin ht hT1 XC1 R1 bw hws hbn hkn xok0 hcl hrun z1 z2 z3 z4 z5 z6 z7 z8 z9 zA zB zC
      by_cases k0 : k = 0
      · subst k0
        go_wp2_with (go_at_call 22; ((with_reducible refine (CSV.out).mono ?_); (rintro e w2 ⟨cs1, q0⟩)); rcases q0 with ⟨rfl, rfl, q1⟩ | ⟨rfl, q1⟩ | ⟨rfl, rfl, q2, q1⟩ | ⟨rfl, rfl, q1⟩)
        · go_roundw
          case rel => exact ⟨i + 1, cb, T1, _, _, _, _, _, _, _, rfl, rfl, rfl, rfl, by go_num, HLT, hid_of q1⟩
          case measure => have := hi.out; simp [intOf]; omega
        · go_roundw
          case rel => exact ⟨i + 1, cb, T1, _, _, _, _, _, _, _, rfl, rfl, rfl, rfl, by go_num, HLT, hid_of q1⟩
          case measure => have := hi.out; simp [intOf]; omega
        · have l2 : wr.heap.size < w2.heap.size := q1.tr.lt _ HTB.out
          have d5 : (bn : Int) ≤ (Rm : Int) := by omega
          have d5b : decide ((bn : Int) ≤ (Rm : Int)) = true := decide_eq_true d5
          have HQ := hid_of q1
          have HL2 := hid_of l2
          clear q1 l2 q2
          go_region_held3 (fun wz => wz.cell? ⟨wr.heap.size, 1, none⟩ = some (.slice bo bn bc)) (first | exact cs1 | exact cs3 | go_keep) (first
            | (go_at_call 18; ((with_reducible refine (CRM.out _ _ _ _ (by first | exact HQ.out.drew | exact HQ.out)).mono ?_); (rintro e w3 ⟨rfl, h3⟩); (have H3 := hid_of (undrew4 h3)); (have cs3 : w3.cell? ⟨wr.heap.size, 1, none⟩ = some (.slice bo bn bc) := ((undrew4 h3).cell (p := ⟨wr.heap.size, 1, none⟩) HL2.out).trans cs1); clear h3)))
          go_wp2
          go_roundw
          case rel => exact ⟨i + 1, cb, T1, _, _, _, _, _, _, _, rfl, rfl, rfl, rfl, by go_num, HLT, hid_of (HQ.out.bel0 H3.out)⟩
          case measure => have := hi.out; simp [intOf]; omega
        · go_roundw
          case rel => exact ⟨i + 1, cb, T1, _, _, _, _, _, _, _, rfl, rfl, rfl, rfl, by go_num, HLT, hid_of q1⟩
          case measure => have := hi.out; simp [intOf]; omega
      by_cases k1 : k = 1
      · subst k1
        go_wp2_with (go_at_call 25; ((with_reducible refine (CFL.out).mono ?_); (rintro e w2 ⟨rfl, q1⟩)))
        go_roundw
        case rel => exact ⟨i + 1, cb, T1, _, _, _, _, _, _, _, rfl, rfl, rfl, rfl, by go_num, HLT, hid_of q1⟩
        case measure => have := hi.out; simp [intOf]; omega
      by_cases k2 : k = 2
      · subst k2
        go_wp2_with (first
          | (go_at_call 28; ((with_reducible refine (CCR.out).mono ?_); (rintro e w2 ⟨rfl, M2, c2, c0, g2, i2, q1⟩)); have V2 := hid_of q1; have S2 := hid_of q1.secs; have D2 := hid_of q1.dr; clear q1)
          | (go_at_call 12; ((with_reducible refine (CSC.out T1 w2 b M2 S2.out D2.out).mono ?_); (rintro e w3 ⟨rfl, q2⟩)); have V3 := hid_of (V2.out.bel0 q2); clear q2)
          | (go_at_call 14; ((with_reducible refine (COP.out T1 w3 b i2 g2 c2 M2 V3.out.bel V3.out.tr V3.out.dr V3.out.secs V3.out.sz V3.out.cch V3.out.off V3.out.rng V3.out.nw).mono ?_); (rintro e w4 ⟨ob, rfl, q1, q2⟩)); have L4 := hid_of q1; have V4 := hid_of (V3.out.bel0 q2); clear q1 q2)
          | (go_at_call 15; ((with_reducible refine (CLD.out T1 w4 ob b i2 g2 M2 c2 L4.out).mono ?_); (rintro e w5 ⟨xa, xn, xc, rfl, q1, q2⟩)); have V5 := hid_of (V4.out.bel0 q2); have Q5 := hid_of (show RunV B (Tn T1 w4 w5) w5 w ob b n L z (.slice xa xn xc) (.slice ya yn yc) false from ⟨V4.out.tr.next q2.size, V5.out.bel, M2, i2, g2, c2, V3.out.sz, V3.out.secs, q1, V3.out.byt, Or.inl ⟨rfl, L4.out.bel q2⟩⟩); obtain ⟨S0, hS0⟩ : ∃ S, S = strOfNums c0 := ⟨_, rfl⟩; obtain ⟨S1, hS1⟩ : ∃ S, S = strOfNums c2 := ⟨_, rfl⟩; have cx := conv_lies (lies_of q1.1); have cn := conv_lies (lies_of V5.out.now.1); rw [← hS0] at cn; rw [← hS1] at cx; have cc := V5.out.cmp; rw [← hS0, ← hS1] at cc; have ss1 : (S1.toList == S1.toList) = true := beq_self_eq_true _; have ss2 : (S1.toList != S1.toList) = false := (by rw [bne, ss1]; rfl); clear q1 q2 hS0 hS1; rcases cc with rfl | ⟨ss3, ss4, rfl, cl⟩))
        · go_roundw
          case rel => exact ⟨i + 1, ob, _, _, _, _, _, _, _, _, rfl, rfl, rfl, rfl, by go_num, HLT, Q5⟩
          case measure => have := hi.out; simp [intOf]; omega
        · go_roundw
          case rel => exact ⟨i + 1, ob, _, _, _, _, _, _, _, _, rfl, rfl, rfl, rfl, by go_num, HLT, Q5⟩
          case measure => have := hi.out; simp [intOf]; omega
      have d0 : (k == 0) = false := beq_eq_false_iff_ne.2 k0
      have d1 : (k == 1) = false := beq_eq_false_iff_ne.2 k1
      have d2' : (k == 2) = false := beq_eq_false_iff_ne.2 k2
      go_wp2
      go_roundw
      case rel => exact ⟨i + 1, cb, T1, _, _, _, _, _, _, _, rfl, rfl, rfl, rfl, by go_num, HLT, hid_of HR1.out⟩
      case measure => have := hi.out; simp [intOf]; omega
    · have f1 : decide ((i : Int) < (n1 : Int)) = false := decide_eq_false (by omega)
      have f1b : ¬ (i : Int) < (n1 : Int) := by omega
      go_wp2
      go_ret
      exact ⟨rfl, hrun.out.bel⟩
theorem surv_all (AW : OpAW) (s : Int) (a0 : Option Addr) (n0 c0 : Nat) (a1 : Option Addr) (n1 c1 : Nat) (R : List (List Int)) (ls : List StX) (w : World) (hG : Sh.Glob w) (ws : (Lit.int .u8 s).wf = true) (h1 : RB (fun k => k < w.heap.size) w (.slice a0 n0 c0) R ∧ ∀ l ∈ R, Byt l) (h2 : StsIn w.heap.size w a1 n1 c1 ls) :
    Calls Tryd.prog 6 #[.int .u8 s, .slice a0 n0 c0, .slice a1 n1 c1] w (BoP true w) := by
  obtain ⟨s, rfl, hs⟩ := u8_num ws
  exact surv_law AW s hs a0 n0 c0 R a1 n1 c1 ls w hG h1.1 h1.2 h2
end Go.Proofs.YtlffiebnieakjaaDoor
