/- Texts in one: JrC, JrD, JrE, JrF, JrG, JrH, JrI, JrL1. -/
import Derived.Test.YtofmijebinnejaaMgRD
import Derived.Test.YtofmijebinnejaaRows
import Derived.Deep.SlicePairs
import Derived.ChangeSame
import Derived.ProofKit
import Derived.Lib.SmallJoins
set_option linter.unusedVariables false
set_option linter.unusedSimpArgs false
/- Operations of a journal that came in, opened. No condition. -/
namespace Go.Proofs.Ytofmijebinnejaa
open Go.RowKit Go.ChangeShapes Go.WideShapes Go.ChangeAt

theorem wf_u8 {n : Int} (h : (Lit.int .u8 n).wf = true) : 0 ≤ n ∧ n ≤ 255 := by
  simpa [Lit.wf, IntKind.min, IntKind.max, IntKind.signed, IntKind.bits] using h
/-- The bytes of a record are bytes. -/
def Byt (l : List Int) : Prop := ∀ x ∈ l, 0 ≤ x ∧ x ≤ 255
/-- An operation as it came in. -/
structure JX where
  rs : Bool
  v : Value
  xs : List (List Int)
def JX.p (x : JX) : PV := (.bool x.rs, x.v)
def JX.ok (B : Nat) (w : World) (x : JX) : Prop := RB (fun k => k < B) w x.v x.xs ∧ ∀ l ∈ x.xs, Byt l
/-- The operations that came in: all in blocks below B. -/
def JsIn (B : Nat) (w : World) (a : Option Addr) (len cap : Nat) (l : List JX) : Prop := l.length = len ∧ PRd w (.slice a len cap) (l.map JX.p) ∧ (∀ b o, a = some ⟨b, o, none⟩ → 0 < len → b < B) ∧ ∀ x ∈ l, x.ok B w
theorem JX.keep {B : Nat} {w w' : World} {x : JX} (h : x.ok B w) (hb : Below B w w') : x.ok B w' := ⟨h.1.keep ⟨hb.size, fun k hk _ => hb.block k hk⟩, h.2⟩
theorem JsIn.at {B : Nat} {w w' : World} {a : Option Addr} {len cap : Nat} {l : List JX} (h : JsIn B w a len cap l) (hb : Below B w w') : JsIn B w' a len cap l := by
  obtain ⟨h1, ⟨ao, c, e, p1, p2, p3⟩, h3, h4⟩ := h
  refine ⟨h1, ⟨ao, c, e, p1, p2, fun h0 => ?_⟩, h3, fun x hx => JX.keep (h4 x hx) hb⟩
  obtain ⟨g, o, q1, q2, q3⟩ := p3 h0
  simp only [Value.slice.injEq] at e
  have hg : g < B := h3 g o (e.1.trans q1) (by rw [List.length_map] at h0; omega)
  refine ⟨g, o, q1, Nat.lt_of_lt_of_le q2 hb.size, fun i t ht => ?_⟩
  obtain ⟨r1, r2⟩ := q3 i t ht
  exact ⟨(hb.cell (p := ⟨g, o + i * 2, none⟩) hg).trans r1, (hb.cell (p := ⟨g, o + i * 2 + 1, none⟩) hg).trans r2⟩
theorem JsIn.get {B : Nat} {w : World} {a : Option Addr} {len cap : Nat} {l : List JX} (h : JsIn B w a len cap l) {i : Nat} (hi : i < len) : ∃ (g o : Nat) (x : JX) (b : Option Addr) (n c : Nat), l[i]? = some x ∧ a = some ⟨g, o, none⟩ ∧ x.v = .slice b n c ∧ w.cell? ⟨g, o + i * 2, none⟩ = some (.bool x.rs) ∧ w.cell? ⟨g, o + i * 2 + 1, none⟩ = some (.slice b n c) ∧ x.ok B w ∧ n = x.xs.length ∧ len ≤ cap ∧ cap ≤ 9223372036854775807 := by
  obtain ⟨h1, h2, h3, h4⟩ := h
  obtain ⟨x, hx⟩ : ∃ x, l[i]? = some x := ⟨_, List.getElem?_eq_getElem (by omega)⟩
  obtain ⟨g, o, e, c0, c1⟩ := h2.get (t := x.p) (by rw [List.getElem?_map, hx]; rfl)
  have hok := h4 x (List.mem_of_getElem? hx)
  obtain ⟨b, n, c, hv⟩ : ∃ b n c, x.v = .slice b n c := by obtain ⟨ys, ⟨ao, cp, e2, _⟩, _⟩ := hok.1; exact ⟨ao, _, cp, e2⟩
  refine ⟨g, o, x, b, n, c, hx, e, hv, c0, by rw [← hv]; exact c1, hok, ?_, h2.cut.2⟩
  have := hok.1
  rw [hv] at this
  exact this.len.1
theorem Try.cellsBysJ : Try.prog.cellsOf 46 = 1 := by kernel_rfl
theorem Try.cellsByysJ : Try.prog.cellsOf 34 = 1 := by kernel_rfl
theorem Try.cellsBoolJ : Try.prog.cellsOf 4 = 1 := by kernel_rfl
theorem Try.cellsOpJ : Try.prog.cellsOf 38 = 2 := by kernel_rfl
set_option maxRecDepth 100000 in
theorem open_by8 {H : Type} {enc : TypeId × Value → H} {w : World} {fuel : Nat} {v : Value} {x : DataW H × List MemPlace} (h : DataW.trod enc Try.prog w 0 (fun _ => true) true fuel 46 [v] = some x) :
    ∃ l : List Int, Rd w v (by8 l) ∧ Byt l := by
  rcases open_ints Try.underlying46 Try.underlying5 (by kernel_rfl) h with ⟨e, _⟩ | ⟨a, len, cap, zs, e, _, hl, hm, hz, _, hcell, hwz⟩
  · simp only [List.cons.injEq, and_true] at e
    subst e
    exact ⟨[], ⟨none, 0, rfl, Nat.le_refl _, by omega, fun h => by simp [by8] at h⟩, fun x hx => by simp at hx⟩
  · simp only [List.cons.injEq, and_true] at e
    subst e
    obtain ⟨l, hl2, hwf, hr⟩ := (show IsRow .u8 w (some a) len cap zs from .inr ⟨_, rfl, hl, hm, by simpa using hz, hcell, hwz⟩).rd
    exact ⟨l, hr, fun x hx => wf_u8 (hwf x hx)⟩
theorem rd_in {w : World} {v : Value} {l : List Value} (h : Rd w v l) (h0 : 0 < l.length) : In (fun k => k < w.heap.size) v := fun a n c e => by
  obtain ⟨_, _, e1, _, _, h4⟩ := h
  obtain ⟨g, o, e2, hg, _⟩ := h4 h0
  rw [e1] at e
  simp only [Value.slice.injEq] at e
  have e3 := e.1
  rw [e2] at e3
  cases e3
  exact hg
set_option maxRecDepth 100000 in
theorem open_recs {H : Type} {enc : TypeId × Value → H} {w : World} {fuel : Nat} {v : Value} {x : DataW H × List MemPlace} (h : DataW.trod enc Try.prog w 0 (fun _ => true) true fuel 34 [v] = some x) :
    ∃ R : List (List Int), RB (fun k => k < w.heap.size) w v R ∧ ∀ l ∈ R, Byt l := by
  rcases Go.Deep.open_slice Try.underlying34 h with ⟨e, _⟩ | ⟨ad, len, cap, m, n, D, Pl, e, _, hlc, hcm, hm, _, hel⟩
  · simp only [List.cons.injEq, and_true] at e
    subst e
    exact ⟨[], ⟨[], ⟨none, 0, rfl, Nat.le_refl _, by simp, fun h => by simp at h⟩, fun h => by simp at h, rfl, fun i x l hx => by simp at hx⟩, by simp⟩
  · simp only [List.cons.injEq, and_true] at e
    subst e
    simp only [if_true] at hm
    subst hm
    unfold maxLen at hcm
    have hex : ∀ i, i < len → ∃ y : Value × List Int, w.cell? (ad.add i) = some y.1 ∧ Rd w y.1 (by8 y.2) ∧ Byt y.2 := by
      intro i hi
      obtain ⟨cs', h1, h2⟩ := hel i (by omega)
      rw [Try.cellsBysJ, Nat.mul_one] at h1
      obtain ⟨_, hl, hc⟩ := World.cells?_some h1
      match cs', hl with
      | [u], _ =>
        obtain ⟨l, r1, r2⟩ := open_by8 h2
        have := hc 0 (by omega)
        rw [show (ad.add i).add 0 = ad.add i by unfold Addr.add; split <;> simp_all] at this
        exact ⟨(u, l), this, r1, r2⟩
    by_cases h0 : len = 0
    · subst h0
      exact ⟨[], ⟨[], ⟨_, _, rfl, by simp, by omega, fun h => by simp at h⟩, fun h => by simp at h, rfl, fun i x l hx => by simp at hx⟩, by simp⟩
    · haveI : Inhabited (Value × List Int) := ⟨(.slice none 0 0, [])⟩
      obtain ⟨f, hf⟩ := Go.Deep.choose_lt hex
      have hx0 := spot_none (hf 0 (by omega)).1
      have had : ad = ⟨ad.block, ad.off, none⟩ := by rwa [show ad.add 0 = ad by rfl] at hx0
      have hrd : Rd w (.slice (some ad) len m) ((List.range len).map fun i => (f i).1) := ⟨some ad, m, by simp, by simpa using hlc, by omega, fun _ => ⟨ad.block, ad.off, by rw [← had], by
        have := (hf 0 (by omega)).1
        rw [show ad.add 0 = ad by rfl] at this
        exact World.block_lt_of_cell? w _ this, fun j u hu => by
        have hj : j < len := by have := (List.getElem?_eq_some_iff.1 hu).1; simpa using this
        have h7 := (hf j hj).1
        rw [had, Addr.add_mid] at h7
        rw [h7, ← hu]
        simp [hj]⟩⟩
      refine ⟨(List.range len).map fun i => (f i).2, ⟨(List.range len).map fun i => (f i).1, hrd, fun h => rd_in hrd h, by simp, fun i x l hx hl => ?_⟩, fun l hl => ?_⟩
      · have hi : i < len := by have := (List.getElem?_eq_some_iff.1 hx).1; simpa using this
        simp [hi] at hx hl
        subst hx hl
        exact ⟨(hf i hi).2.1, fun h => rd_in (hf i hi).2.1 (by rwa [by8_length])⟩
      · obtain ⟨i, hi, rfl⟩ := List.mem_map.1 hl
        exact (hf i (by simpa using hi)).2.2
set_option maxRecDepth 100000 in
theorem open_jops {H : Type} {enc : TypeId × Value → H} {w : World} {fuel len cap : Nat} {a : Option Addr} {x : DataW H × List MemPlace} (h : DataW.trod enc Try.prog w 0 (fun _ => true) true fuel 22 [.slice a len cap] = some x) :
    ∃ l, JsIn w.heap.size w a len cap l := by
  rcases Go.Deep.open_slice_pairs Try.underlying22 Try.underlying38 (by kernel_rfl) rfl rfl (by kernel_rfl) (by kernel_rfl) h with ⟨e, _⟩ | ⟨ad, len', cap', m, n, V0, V1, D0, D1, P0, P1, e, _, hlc, hcm, hm, _, hel⟩
  · simp only [List.cons.injEq, Value.slice.injEq, and_true] at e
    obtain ⟨rfl, rfl, rfl⟩ := e
    exact ⟨[], rfl, prd_nil _, fun b o e _ => (by cases e), by simp⟩
  · simp only [List.cons.injEq, Value.slice.injEq, and_true] at e
    obtain ⟨rfl, rfl, rfl⟩ := e
    simp only [if_true] at hm
    subst hm
    unfold maxLen at hcm
    have hex : ∀ i, i < len → ∃ y : JX, w.cell? (ad.add (i * 2)) = some (.bool y.rs) ∧ w.cell? (ad.add (i * 2 + 1)) = some y.v ∧ y.ok w.heap.size w := by
      intro i hi
      obtain ⟨h1, h2, h3, h4⟩ := hel i (by omega)
      obtain ⟨bb, e0, _⟩ := DataW.trod_bool Try.underlying4 h3
      simp only [List.cons.injEq, and_true] at e0
      obtain ⟨R, r1, r2⟩ := open_recs h4
      exact ⟨⟨bb, V1 i, R⟩, by rw [h1, e0], h2, r1, r2⟩
    by_cases h0 : len = 0
    · subst h0
      exact ⟨[], rfl, ⟨_, _, rfl, by simp, by omega, fun h => by simp at h⟩, fun b o _ h => by omega, by simp⟩
    · haveI : Inhabited JX := ⟨⟨false, .slice none 0 0, []⟩⟩
      obtain ⟨f, hf⟩ := Go.Deep.choose_lt hex
      have h00 := (hf 0 (by omega)).1
      have hx0 := spot_none h00
      have had : ad = ⟨ad.block, ad.off, none⟩ := by rwa [show ad.add (0 * 2) = ad by rfl] at hx0
      have hlt : ad.block < w.heap.size := by
        rw [show ad.add (0 * 2) = ad by rfl] at h00
        exact World.block_lt_of_cell? w _ h00
      refine ⟨(List.range len).map f, by simp, ⟨some ad, m, by simp, by simpa using hlc, by omega, fun _ => ⟨ad.block, ad.off, by rw [← had], hlt, fun i t ht => ?_⟩⟩, fun b o e _ => by rw [Option.some.injEq] at e; rw [e] at hlt; exact hlt, fun x hx => ?_⟩
      · have hi : i < len := by have := (List.getElem?_eq_some_iff.1 ht).1; simpa using this
        have h7 := (hf i hi).1
        have h8 := (hf i hi).2.1
        rw [had, Addr.add_mid] at h7 h8
        have et : t = (f i).p := by simp [hi] at ht; exact ht.symm
        subst et
        exact ⟨h7, by rw [Nat.add_assoc]; exact h8⟩
      · obtain ⟨i, hi, rfl⟩ := List.mem_map.1 hx
        exact (hf i (by simpa using hi)).2.2
end Go.Proofs.Ytofmijebinnejaa

/- The journal's reference: Few, After. Bounds on sizes alone. -/
namespace Go.Proofs.Ytofmijebinnejaa
open Go.RowKit
open Wr (enc enc_length_pos enc_length_10)
set_option maxRecDepth 100000
set_option maxHeartbeats 6400000

theorem step_app {P : Program} {S E : TypeId} {z : Value} {eb : Nat} (T : Elem P S E z eb) {ops : Array Oper} {o : Oper} {a : Act} {w : World} {K : Act → World → Prop} {Q : Exit → Act → World → Prop} {F : Prop} (hgd : o.guard = none) (s x : Operand)
    (ho : o.op = .call { callee := .builtin .append, args := #[s, x], argTypes := #[S, S] })
    {B : Nat} {w0 : World} {v : Value} {l : List Value} (hv : a.eval s = v) (H : Ow E B w0 w v l) {vx : Value} {m : List Value} (hx : a.eval x = vx) (L : Rd w vx m) (h1 : ∀ u ∈ m, u.oneCell' = true) (hl : (l.length + m.length) * eb ≤ 140737488355328) (hl2 : l.length + m.length ≤ 140737488355328)
    (h : ∀ (ao : Option Addr) (n cap : Nat) (w' : World), n = l.length + m.length → Ow E B w0 w' (.slice ao n cap) (l ++ m) → K (a.put o.dst (.slice ao n cap)) w') :
    if Region.wanted o (yielded ops a.tmps) = true then Oper.wp P o a w K Q else F := by
  obtain ⟨i0, hi, hz0, hz1, hz2⟩ := info_parts T.info
  refine step_append_src _ hgd s x S S ho B E i0 z 1 eb T.und hi hz0 hz1 hz2 T.one (by decide) v l.length l hv H.own vx m.length m hx (L.srcs T h1) (by unfold maxLen; omega) (by omega) H.size ?_
  intro v2 w2 hown hg _ _
  have H2 := H.app hown rfl hg
  obtain ⟨ao, cap, rfl⟩ := own_shape hown
  exact h ao _ cap w2 rfl H2
/-- Operations within the statements' bounds. -/
def FewP (l : List JX) : Prop := l.length ≤ 30 ∧ ∀ x ∈ l, x.xs.length ≤ 20 ∧ ∀ r ∈ x.xs, r.length ≤ 300
theorem RB.entry {S : Nat → Prop} {w : World} {a : Option Addr} {n c : Nat} {R : List (List Int)} (h : RB S w (.slice a n c) R) {j : Nat} (hj : j < n) : ∃ (g o : Nat) (l : List Int) (b : Option Addr) (d : Nat), R[j]? = some l ∧ a = some ⟨g, o, none⟩ ∧ w.cell? ⟨g, o + j, none⟩ = some (.slice b l.length d) ∧ CR S w (.slice b l.length d) l := by
  have hn := h.len.1
  obtain ⟨xs, q1, q2, q3, q4⟩ := h
  obtain ⟨l, hl⟩ : ∃ l, R[j]? = some l := ⟨_, List.getElem?_eq_getElem (by omega)⟩
  obtain ⟨x, hx⟩ : ∃ x, xs[j]? = some x := ⟨_, List.getElem?_eq_getElem (by omega)⟩
  obtain ⟨g, o, e, k0⟩ := rd_at q1 hx
  have hcr := q4 j x l hx hl
  obtain ⟨b, d, rfl⟩ : ∃ ao c, x = .slice ao l.length c := by obtain ⟨a, c, e, _⟩ := hcr.1; rw [by8_length] at e; exact ⟨a, c, e⟩
  exact ⟨g, o, l, b, d, hl, e, k0, hcr⟩
/-- Few: true only within the bounds. -/
theorem few_any (B : Nat) (a : Option Addr) (len cap : Nat) (l : List JX) (w : World) (h : JsIn B w a len cap l) :
    ∃ x : Bool, (x = true → FewP l) ∧ Calls Try.prog 11 #[.slice a len cap] w fun e w' => e = .returned (.bool x) ∧ w = w' := by
  classical
  have hll := h.1
  have hcap := h.2.1.cut.2
  refine ⟨decide (FewP l), fun h => of_decide_eq_true h, ?_⟩
  have HI := hid_of (fun i (hi : i < len) => h.get hi)
  have HLL := hid_of hll
  have len9 : len ≤ 9223372036854775807 := by omega
  by_cases h30 : len ≤ 30
  case neg =>
    have HF : Hid (decide (FewP l) = false) := hid_of (decide_eq_false fun h => h30 (by rw [← hll]; exact h.1))
    have d1 : decide ((len : Int) > 30) = true := decide_eq_true (by omega)
    have d2 : decide (30 < len) = true := decide_eq_true (by omega)
    have d3 : 30 < len := by omega
    clear h hll HI
    go_enter Try.func11, Try.ntmps11
    go_wp2
    go_ret
    exact ⟨by rw [HF.out]; rfl, rfl⟩
  have d1 : decide ((len : Int) > 30) = false := decide_eq_false (by omega)
  have d2 : decide (30 < len) = false := decide_eq_false (by omega)
  have d3 : ¬ 30 < len := by omega
  have H30 := hid_of h30
  clear h hll
  go_enter Try.func11, Try.ntmps11
  go_wp2
  go_loopw [3, 4] (fun iv kv wr => ∃ i : Nat, i ≤ len ∧ iv = .int .i64 i ∧ Hid (∀ x ∈ l.take i, x.xs.length ≤ 20 ∧ ∀ r ∈ x.xs, r.length ≤ 300) ∧ wr = w) (fun iv _ _ => len - (intOf iv).toNat)
  case atStart => exact ⟨0, Nat.zero_le _, rfl, hid_of (by simp), rfl⟩
  case round =>
    obtain ⟨i, hi, rfl, hp, rfl⟩ := hrel
    by_cases hlt : i < len
    · have e1 : decide (i < len) = true := decide_eq_true hlt
      have hlt' : (i : Int) < (len : Int) := by omega
      obtain ⟨g, o, x, b, n, c, hx, rfl, hv, c0, c1, hok, hn, hc1, hc2⟩ := HI.out i hlt
      have HX := hid_of hx
      have HM := hid_of (List.mem_of_getElem? hx)
      have HLT := hid_of hlt
      have HNL := hid_of hn
      have HEN := hid_of (fun (k : Nat) (hk : k < n) => (show RB (fun k => k < B) wr (.slice b n c) x.xs by rw [← hv]; exact hok.1).entry hk)
      have hnc := (show RB (fun k => k < B) wr (.slice b n c) x.xs by rw [← hv]; exact hok.1).len.2
      have n9 : n ≤ 9223372036854775807 := by omega
      clear hx hok hlt hn
      by_cases h20 : n ≤ 20
      · have f1 : decide ((n : Int) > 20) = false := decide_eq_false (by omega)
        have f2 : decide (20 < n) = false := decide_eq_false (by omega)
        have f3 : ¬ 20 < n := by omega
        have H20 := hid_of h20
        go_wp2
        go_loopw [4] (fun kv w2 => ∃ k : Nat, k ≤ n ∧ kv = .int .i64 k ∧ Hid (∀ r ∈ x.xs.take k, r.length ≤ 300) ∧ w2 = wr) (fun kv _ => n - (intOf kv).toNat)
        case atStart => exact ⟨0, Nat.zero_le _, rfl, hid_of (by simp), rfl⟩
        case round =>
          obtain ⟨k, hk, rfl, hq, rfl⟩ := hrel
          by_cases hlk : k < n
          · have e3 : decide (k < n) = true := decide_eq_true hlk
            have hlk' : (k : Int) < (n : Int) := by omega
            obtain ⟨g2, o2, r, b2, m2, hr, rfl, k0, hcr⟩ := HEN.out k hlk
            have HR := hid_of hr
            have HLK := hid_of hlk
            have hrl := (rd_cut hcr.1).2
            obtain ⟨rl, hrl2⟩ : ∃ rl, rl = r.length := ⟨_, rfl⟩
            rw [← hrl2] at k0 hrl
            have HRL := hid_of hrl2
            have r9 : rl ≤ 9223372036854775807 := by omega
            clear hr hcr hlk hrl2
            by_cases h3 : rl ≤ 300
            · have i1 : decide ((rl : Int) > 300) = false := decide_eq_false (by omega)
              have i2 : decide (300 < rl) = false := decide_eq_false (by omega)
              have i3 : ¬ 300 < rl := by omega
              have HQ : Hid (∀ r ∈ x.xs.take (k + 1), r.length ≤ 300) := hid_of (fun y hy => by
                rw [List.take_add_one, HR.out] at hy
                rcases List.mem_append.1 hy with h9 | h9
                · exact hq.out y h9
                · simp at h9; rw [h9, ← HRL.out]; exact h3)
              go_wp2
              go_roundw
              case rel => exact ⟨k + 1, HLK.out, by go_num, HQ, by first | rfl | trivial⟩
              case measure => have := HLK.out; simp [intOf]; omega
            · have i1 : decide ((rl : Int) > 300) = true := decide_eq_true (by omega)
              have i2 : decide (300 < rl) = true := decide_eq_true (by omega)
              have i3 : 300 < rl := by omega
              have HF : Hid (decide (FewP l) = false) := hid_of (decide_eq_false fun h => by
                have := (h.2 x HM.out).2 r (List.mem_of_getElem? HR.out)
                rw [← HRL.out] at this
                omega)
              go_wp2
              go_ret
              exact ⟨by rw [HF.out]; rfl, rfl⟩
          · obtain rfl : k = n := by omega
            have e3 : decide (k < k) = false := by simp
            have HQ : Hid (∀ x ∈ l.take (i + 1), x.xs.length ≤ 20 ∧ ∀ r ∈ x.xs, r.length ≤ 300) := hid_of (fun y hy => by
              rw [List.take_add_one, HX.out] at hy
              rcases List.mem_append.1 hy with h9 | h9
              · exact hp.out y h9
              · simp at h9
                rw [h9]
                refine ⟨by rw [← HNL.out]; exact H20.out, fun r hr => hq.out r (by rw [HNL.out, List.take_length]; exact hr)⟩)
            go_wp2
            go_roundw
            case rel => exact ⟨i + 1, HLT.out, by go_num, HQ, by first | rfl | trivial⟩
            case measure => have := HLT.out; simp [intOf]; omega
      · have f1 : decide ((n : Int) > 20) = true := decide_eq_true (by omega)
        have f2 : decide (20 < n) = true := decide_eq_true (by omega)
        have f3 : 20 < n := by omega
        have HF : Hid (decide (FewP l) = false) := hid_of (decide_eq_false fun h => by
          have := (h.2 x HM.out).1
          rw [← HNL.out] at this
          omega)
        go_wp2
        go_ret
        exact ⟨by rw [HF.out]; rfl, rfl⟩
    · obtain rfl : i = len := by omega
      have e1 : decide (i < i) = false := by simp
      have HT : Hid (decide (FewP l) = true) := hid_of (decide_eq_true ⟨by rw [HLL.out]; exact H30.out, fun x hx => hp.out x (by rw [← HLL.out, List.take_length]; exact hx)⟩)
      go_wp2
      go_ret
      exact ⟨by rw [HT.out]; rfl, rfl⟩
/-- A list that is nothing. -/
theorem rb_nil (S : Nat → Prop) (w : World) (a : Option Addr) (c : Nat) (hc : c ≤ 9223372036854775807) : RB S w (.slice a 0 c) [] := ⟨[], ⟨a, c, rfl, Nat.zero_le _, hc, fun h => by simp at h⟩, fun h => by simp at h, rfl, fun i x l hx => by simp at hx⟩
theorem RB.at' {T : Nat → Prop} {B : Nat} {w w' : World} {v : Value} {R : List (List Int)} (h : RB (fun k => T k ∨ (B ≤ k ∧ k < w.heap.size)) w v R) (hb : Below w.heap.size w w') : RB (fun k => T k ∨ (B ≤ k ∧ k < w'.heap.size)) w' v R := by
  have hs := hb.size
  refine (h.keep ⟨hb.size, fun k _ hl => hb.block k hl⟩).mono fun k hk => ?_
  rcases hk with hk | hk
  · exact Or.inl hk
  · exact Or.inr ⟨hk.1, by omega⟩
theorem after_any (T : Nat → Prop) (R X : List (List Int)) (rs : Bool) (a1 : Option Addr) (n1 c1 : Nat) (a2 : Option Addr) (n2 c2 : Nat) (area : Nat) (w : World) (h1 : RB T w (.slice a1 n1 c1) R) (h2 : RB T w (.slice a2 n2 c2) X) (hT : ∀ k, T k → k < w.heap.size) (hl : (streamF (R ++ X)).length ≤ 1000000000) (ha : area ≤ 268435456) :
    Calls Try.prog 16 #[.slice a1 n1 c1, .agg #[.bool rs, .slice a2 n2 c2], .int .i64 area] w fun e w' => ∃ y k c, e = .returned (.tuple #[.slice y k c, .int .i64 (nxtF R rs X area).2]) ∧ RB (fun k => T k ∨ (w.heap.size ≤ k ∧ k < w'.heap.size)) w' (.slice y k c) (nxtF R rs X area).1 ∧ Below w.heap.size w w' := by
  have HN0 := heap_alloc_new w (opBox rs a2 n2 c2)
  have x0 := cell_blk (j := 0) HN0 rfl
  have x1 := cell_blk (j := 1) HN0 rfl
  clear HN0
  cases rs with
  | true =>
    unfold nxtF
    rw [if_pos rfl]
    clear h1 h2 hT hl
    go_enter Try.func16, Try.ntmps16
    go_wp2
    go_ret2
    exact ⟨_, _, _, rfl, rb_nil _ _ _ _ (by omega), (bel_alloc w _).trans ((bel_alloc _ _).mono (by simp))⟩
  | false =>
    have hb1 := h1.len
    have hb2 := h2.len
    have hlen := stream_len (R ++ X)
    rw [List.length_append] at hlen
    have h1' := h1
    have h2' := h2
    obtain ⟨xs1, q1, q2, q3, q4⟩ := h1'
    obtain ⟨xs2, p1, p2, p3, p4⟩ := h2'
    have hx1 : ∀ u ∈ xs1, u.oneCell' = true := fun u hu => by
      obtain ⟨i, hi⟩ := List.getElem?_of_mem hu
      obtain ⟨l, hl⟩ : ∃ l, R[i]? = some l := ⟨_, List.getElem?_eq_getElem (by have := (List.getElem?_eq_some_iff.1 hi).1; omega)⟩
      obtain ⟨ao, c, e, _⟩ := (q4 i u l hi hl).1
      rw [e]; rfl
    have hx2 : ∀ u ∈ xs2, u.oneCell' = true := fun u hu => by
      obtain ⟨i, hi⟩ := List.getElem?_of_mem hu
      obtain ⟨l, hl⟩ : ∃ l, X[i]? = some l := ⟨_, List.getElem?_eq_getElem (by have := (List.getElem?_eq_some_iff.1 hi).1; omega)⟩
      obtain ⟨ao, c, e, _⟩ := (p4 i u l hi hl).1
      rw [e]; rfl
    have HX1 := hid_of hx1
    have HX2 := hid_of hx2
    have hsz : (w.alloc (opBox false a2 n2 c2)).heap.size = w.heap.size + 1 := by simp
    have O0 : Hid (Ow 46 (w.heap.size + 1) (w.alloc (opBox false a2 n2 c2)) ((w.alloc (opBox false a2 n2 c2)).alloc (.cells #[] 46)) (.slice (some ⟨w.heap.size + 1, 0, none⟩) 0 0) []) := hid_of (by rw [← hsz]; exact ow_empty _ _)
    have RX1 := hid_of (fun (X : World) (hX : Below w.heap.size w X) => q1.at hX)
    have RX2 := hid_of (fun (X : World) (hX : Below w.heap.size w X) => p1.at hX)
    have BA := hid_of (bel_alloc w (opBox false a2 n2 c2))
    have HLN : Hid (xs1.length + xs2.length ≤ 1000000000) := hid_of (by omega)
    -- what the new list reads as
    have RBN : Hid (∀ (W : World) (ao : Option Addr) (n cap : Nat), Ow 46 (w.heap.size + 1) (w.alloc (opBox false a2 n2 c2)) W (.slice ao n cap) (xs1 ++ xs2) → RB (fun k => T k ∨ (w.heap.size ≤ k ∧ k < W.heap.size)) W (.slice ao n cap) (R ++ X)) := hid_of (fun W ao n cap O => by
      have hW : Below w.heap.size w W := BA.out.trans (O.bel.mono (by omega))
      refine ⟨xs1 ++ xs2, O.rd (by rw [List.length_append]; have := HLN.out; omega), fun h0 a' n' c' e => ?_, by rw [List.length_append, List.length_append]; omega, fun i x l hx hl => ?_⟩
      · have h9 := O.own
        have h8 : (Value.slice ao n cap).ownBlock = some a'.block := by
          cases e
          have := O.own.2
          rcases this with ⟨e2, _⟩ | ⟨g, c9, cur, e2, _⟩
          · cases e2
          · simp only [Value.slice.injEq, Option.some.injEq] at e2
            rw [e2.1]
            rfl
        have := h9.lt _ h8
        exact Or.inr ⟨by omega, this.2⟩
      · have hsz := hW.size
        have kp : ∀ {v l}, CR T w v l → CR (fun k => T k ∨ (w.heap.size ≤ k ∧ k < W.heap.size)) W v l := fun hcr => (hcr.keep ⟨hW.size, fun k hk _ => hW.block k (hT k hk)⟩).mono fun k hk => Or.inl hk
        by_cases hi : i < xs1.length
        · rw [List.getElem?_append_left hi] at hx
          rw [List.getElem?_append_left (by omega)] at hl
          exact kp (q4 i x l hx hl)
        · rw [List.getElem?_append_right (by omega)] at hx
          rw [List.getElem?_append_right (by omega)] at hl
          rw [q3] at hx
          exact kp (p4 _ x l hx hl))
    obtain ⟨nx, hnx⟩ : ∃ nx, nx = (streamF (R ++ X)).length := ⟨_, rfl⟩
    have CS := hid_of (fun (W : World) (ao : Option Addr) (n cap : Nat) (hW : w.heap.size ≤ W.heap.size) (h : RB (fun k => T k ∨ (w.heap.size ≤ k ∧ k < W.heap.size)) W (.slice ao n cap) (R ++ X)) => rstream_any _ (R ++ X) ao n cap W h (fun k hk => by rcases hk with hk | hk; exact Nat.lt_of_lt_of_le (hT k hk) hW; exact hk.2) hl)
    rw [← hnx] at CS
    have RB1 : Hid (∀ W, Below w.heap.size w W → RB (fun k => T k ∨ (w.heap.size ≤ k ∧ k < W.heap.size)) W (.slice a1 n1 c1) R) := hid_of (fun W hW => (h1.keep ⟨hW.size, fun k hk _ => hW.block k (hT k hk)⟩).mono fun k hk => Or.inl hk)
    have hnx9 : nx ≤ 1000000000 := by rw [hnx]; exact hl
    by_cases hf : area < nx
    · have hnn : nxtF R false X area = (R, 7) := by unfold nxtF; rw [if_neg (by simp), if_pos (by rw [← hnx]; exact hf)]
      rw [hnn]
      have d1 : decide ((nx : Int) > (area : Int)) = true := decide_eq_true (by omega)
      have d2 : decide (area < nx) = true := decide_eq_true hf
      clear h1 h2 hT hl q1 q2 q3 q4 p1 p2 p3 p4 hx1 hx2 hnx hnn hlen hb1 hb2
      go_enter Try.func16, Try.ntmps16
      go_wp2
      (go_region_held3 (fun w' => w'.cell? ⟨w.heap.size, 1, none⟩ = some (.slice a2 n2 c2)) (first | assumption | go_keep) (first
        | (refine step_app rowE (by kernel_rfl) (.tmp 12) (.tmp 13) (by kernel_rfl) (v := .slice (some ⟨w.heap.size + 1, 0, none⟩) 0 0) (l := []) (by kernel_rfl) O0.out.drew (vx := .slice a1 n1 c1) (m := xs1) (by kernel_rfl) (RX1.out _ (BA.out.trans (O0.out.drew.bel.mono (Nat.le_succ _)))) HX1.out (by have := HLN.out; simp only [List.length_nil]; omega) (by have := HLN.out; simp only [List.length_nil]; omega) ?_; intro ao1 k1 cap1 w1 e1 h5; have O1 := hid_of h5; have t1 : w1.cell? ⟨w.heap.size, 1, none⟩ = some (.slice a2 n2 c2) := (O1.out.bel.cell (p := ⟨w.heap.size, 1, none⟩) (by show w.heap.size < w.heap.size + 1; omega)).trans x1; clear e1 h5)
        | (refine step_app rowE (by kernel_rfl) (.tmp 14) (.tmp 16) (by kernel_rfl) (v := .slice ao1 k1 cap1) (l := [] ++ xs1) (by kernel_rfl) O1.out (vx := .slice a2 n2 c2) (m := xs2) (by kernel_rfl) (RX2.out _ (BA.out.trans (O1.out.bel.mono (Nat.le_succ _)))) HX2.out (by have := HLN.out; rw [List.nil_append]; omega) (by have := HLN.out; rw [List.nil_append]; omega) ?_; intro ao3 k3 cap3 w3 e1 h5; have O3 := hid_of h5; have t3 : w3.cell? ⟨w.heap.size, 1, none⟩ = some (.slice a2 n2 c2) := (O3.out.bel.cell (p := ⟨w.heap.size, 1, none⟩) (by show w.heap.size < w.heap.size + 1; omega)).trans x1; clear e1 h5)))
      all_goals (have B3 := hid_of (BA.out.trans (O3.out.bel.mono (by omega))); have N3 := hid_of (RBN.out w3 ao3 k3 cap3 O3.out))
      all_goals go_wp2_with (first
        | (go_at_call 38; ((with_reducible refine (CS.out w3 ao3 k3 cap3 B3.out.size N3.out).mono ?_); (rintro e w4 ⟨x4, c4, rfl, q1⟩)); have B4 := hid_of (B3.out.trans (q1.mono B3.out.size)); clear q1))
      all_goals go_ret2
      all_goals exact ⟨_, _, _, rfl, RB1.out _ B4.out, B4.out⟩
    · have hnn : nxtF R false X area = (R ++ X, 0) := by unfold nxtF; rw [if_neg (by simp), if_neg (by rw [← hnx]; exact hf)]
      rw [hnn]
      have d1 : decide ((nx : Int) > (area : Int)) = false := decide_eq_false (by omega)
      have d2 : decide (area < nx) = false := decide_eq_false hf
      clear h1 h2 hT hl q1 q2 q3 q4 p1 p2 p3 p4 hx1 hx2 hnx hnn hlen hb1 hb2
      go_enter Try.func16, Try.ntmps16
      go_wp2
      (go_region_held3 (fun w' => w'.cell? ⟨w.heap.size, 1, none⟩ = some (.slice a2 n2 c2)) (first | assumption | go_keep) (first
        | (refine step_app rowE (by kernel_rfl) (.tmp 12) (.tmp 13) (by kernel_rfl) (v := .slice (some ⟨w.heap.size + 1, 0, none⟩) 0 0) (l := []) (by kernel_rfl) O0.out.drew (vx := .slice a1 n1 c1) (m := xs1) (by kernel_rfl) (RX1.out _ (BA.out.trans (O0.out.drew.bel.mono (Nat.le_succ _)))) HX1.out (by have := HLN.out; simp only [List.length_nil]; omega) (by have := HLN.out; simp only [List.length_nil]; omega) ?_; intro ao1 k1 cap1 w1 e1 h5; have O1 := hid_of h5; have t1 : w1.cell? ⟨w.heap.size, 1, none⟩ = some (.slice a2 n2 c2) := (O1.out.bel.cell (p := ⟨w.heap.size, 1, none⟩) (by show w.heap.size < w.heap.size + 1; omega)).trans x1; clear e1 h5)
        | (refine step_app rowE (by kernel_rfl) (.tmp 14) (.tmp 16) (by kernel_rfl) (v := .slice ao1 k1 cap1) (l := [] ++ xs1) (by kernel_rfl) O1.out (vx := .slice a2 n2 c2) (m := xs2) (by kernel_rfl) (RX2.out _ (BA.out.trans (O1.out.bel.mono (Nat.le_succ _)))) HX2.out (by have := HLN.out; rw [List.nil_append]; omega) (by have := HLN.out; rw [List.nil_append]; omega) ?_; intro ao3 k3 cap3 w3 e1 h5; have O3 := hid_of h5; have t3 : w3.cell? ⟨w.heap.size, 1, none⟩ = some (.slice a2 n2 c2) := (O3.out.bel.cell (p := ⟨w.heap.size, 1, none⟩) (by show w.heap.size < w.heap.size + 1; omega)).trans x1; clear e1 h5)))
      all_goals (have B3 := hid_of (BA.out.trans (O3.out.bel.mono (by omega))); have N3 := hid_of (RBN.out w3 ao3 k3 cap3 O3.out))
      all_goals go_wp2_with (first
        | (go_at_call 38; ((with_reducible refine (CS.out w3 ao3 k3 cap3 B3.out.size N3.out).mono ?_); (rintro e w4 ⟨x4, c4, rfl, q1⟩)); have B4 := hid_of (B3.out.trans (q1.mono B3.out.size)); have N4 := hid_of ((N3.out.at' q1)); clear q1))
      all_goals go_ret2
      all_goals exact ⟨_, _, _, rfl, N4.out, B4.out⟩
end Go.Proofs.Ytofmijebinnejaa

/- A journal in a law's run: operations, reading, power failures, crashes, openings. Bounds on sizes alone. -/
namespace Go.Proofs.Ytofmijebinnejaa
open Go.RowKit
set_option maxRecDepth 100000
set_option maxHeartbeats 1600000

/-- A disk in a law's run: its blocks lie above B and are none of T. -/
def DR (B : Nat) (T : Nat → Prop) (w : World) (b : Nat) (M : DM) : Prop := ∃ SD, IG.DS SD w b M ∧ ∀ k, SD k → B ≤ k ∧ k < w.heap.size ∧ ¬ T k
/-- What a run keeps of its own lists. -/
structure TR (B : Nat) (T : Nat → Prop) (w : World) : Prop where
  low : ∀ k, k < B → T k
  lt : ∀ k, T k → k < w.heap.size
theorem TR.hB {B : Nat} {T : Nat → Prop} {w : World} (h : TR B T w) : B ≤ w.heap.size := by
  rcases Nat.lt_or_ge w.heap.size B with h1 | h1
  · have := h.lt _ (h.low _ h1); omega
  · exact h1
/-- T and what is new. -/
abbrev Tn (T : Nat → Prop) (w w' : World) : Nat → Prop := fun k => T k ∨ (w.heap.size ≤ k ∧ k < w'.heap.size)
theorem TR.next {B : Nat} {T : Nat → Prop} {w w' : World} (h : TR B T w) (hs : w.heap.size ≤ w'.heap.size) : TR B (Tn T w w') w' := ⟨fun k hk => Or.inl (h.low k hk), fun k hk => by rcases hk with hk | hk; exact Nat.lt_of_lt_of_le (h.lt k hk) hs; exact hk.2⟩
theorem TR.same {B : Nat} {T : Nat → Prop} {w w' : World} (h : TR B T w) (hs : w.heap.size ≤ w'.heap.size) : TR B T w' := ⟨h.low, fun k hk => Nat.lt_of_lt_of_le (h.lt k hk) hs⟩
section
variable {B : Nat} {T : Nat → Prop} {w w' : World} {jb b : Nat} {M : DM} {fs ct : Nat} {R : List (List Int)} {wk : Bool}
/-- Blocks below the heap's size are as they were. -/
theorem DR.bel (h : DR B T w b M) (hb : Below w.heap.size w w') : DR B (Tn T w w') w' b M := by
  obtain ⟨SD, h1, h2⟩ := h
  refine ⟨SD, IG.keep h1 ⟨hb.size, fun k _ hl => hb.block k hl⟩, fun k hk => ⟨(h2 k hk).1, Nat.lt_of_lt_of_le (h2 k hk).2.1 hb.size, fun ht => ?_⟩⟩
  rcases ht with ht | ht
  · exact (h2 k hk).2.2 ht
  · have := (h2 k hk).2.1; omega
/-- Only the disk's blocks and new ones have changed. -/
theorem dr_next {SD : Nat → Prop} {M' : DM} (t : TR B T w) (h2 : ∀ k, SD k → B ≤ k ∧ k < w.heap.size ∧ ¬ T k) (d : IG.DS (Nw SD w w') w' b M') (k : Kept SD w w') : DR B T w' b M' ∧ Below B w w' ∧ Keeps T w w' := by
  refine ⟨⟨_, IG.lt d, fun q hq => ⟨?_, hq.2, fun ht => ?_⟩⟩, k.below t.hB fun q hq => (h2 q hq).1, k.size, fun q hq hl => k.block q hl fun hs => (h2 q hs).2.2 hq⟩
  · rcases hq.1 with h | h
    · exact (h2 q h).1
    · have := t.hB; omega
  · rcases hq.1 with h | h
    · exact (h2 q h).2.2 ht
    · have := t.lt q ht; omega
/-- A journal in a law's run. -/
structure JR (B : Nat) (T : Nat → Prop) (w : World) (jb b : Nat) (M : DM) (fs ct : Nat) (R : List (List Int)) (wk : Bool) : Prop where
  lj : ∃ S SD vs, JK S SD w jb b M fs ct (streamF R) wk vs ∧ ∀ k, S k → B ≤ k ∧ k < w.heap.size ∧ ¬ T k
  rM : RngM M
  rR : Byt (streamF R)
  live : wk = true → Good M fs ct (streamF R)
  dead : wk = false → M.off = true ∨ M.cache = []
  cch : M.cache.length ≤ 65537
theorem JR.fit (h : JR B T w jb b M fs ct R wk) : Fit M fs ct (streamF R) := by
  obtain ⟨_, _, _, h1, _⟩ := h.lj
  exact h1.fit
theorem JR.recs (h : JR B T w jb b M fs ct R wk) : recsF (streamF R) ((streamF R).length + 1) 0 = some R := recs_of R (by have := h.fit.bound; omega)
theorem JR.bel (h : JR B T w jb b M fs ct R wk) (hb : Below w.heap.size w w') : JR B (Tn T w w') w' jb b M fs ct R wk := by
  obtain ⟨S, SD, vs, h1, h2⟩ := h.lj
  refine ⟨⟨S, SD, vs, h1.keep ⟨hb.size, fun k _ hl => hb.block k hl⟩, fun k hk => ⟨(h2 k hk).1, Nat.lt_of_lt_of_le (h2 k hk).2.1 hb.size, fun ht => ?_⟩⟩, h.rM, h.rR, h.live, h.dead, h.cch⟩
  rcases ht with ht | ht
  · exact (h2 k hk).2.2 ht
  · have := (h2 k hk).2.1; omega
theorem JR.bel0 (h : JR B T w jb b M fs ct R wk) (t : TR B T w) (hb : Below w.heap.size w w') : JR B T w' jb b M fs ct R wk := by
  obtain ⟨S, SD, vs, h1, h2⟩ := h.lj
  exact ⟨⟨S, SD, vs, h1.keep ⟨hb.size, fun k _ hl => hb.block k hl⟩, fun k hk => ⟨(h2 k hk).1, Nat.lt_of_lt_of_le (h2 k hk).2.1 hb.size, (h2 k hk).2.2⟩⟩, h.rM, h.rR, h.live, h.dead, h.cch⟩
theorem JR.disk (h : JR B T w jb b M fs ct R wk) : DR B T w b M := by
  obtain ⟨S, SD, vs, h1, h2⟩ := h.lj
  exact ⟨SD, h1.dk, fun k hk => h2 k (h1.sd k hk)⟩
theorem JR.records (h : JR B T w jb b M fs ct R wk) (_t : TR B T w) : Calls Try.prog 19 #[.pointer (some ⟨jb, 0, none⟩)] w fun e w' => ∃ x n m, e = .returned (.slice x n m) ∧ RB (Tn T w w') w' (.slice x n m) R ∧ Below w.heap.size w w' := by
  have hrec := h.recs
  have hrr := h.rR
  obtain ⟨S, SD, vs, h1, h2⟩ := h.lj
  refine (records_any S SD w jb b M fs ct (streamF R) wk vs R hrec hrr h1).mono fun e w' ⟨x, n, m, q1, q2, q3⟩ => ⟨x, n, m, q1, ?_, q3⟩
  obtain ⟨xs, p1, p2, p3, p4⟩ := q2
  refine ⟨xs, p1, fun h0 a c d e2 => ?_, p3, fun i y l hy hl => ?_⟩
  · exact Or.inr ⟨p2 h0 a c d e2, p1.inlt h0 a c d e2⟩
  · exact (p4 i y l hy hl).lt.mono fun k hk => Or.inr hk
theorem JR.left (h : JR B T w jb b M fs ct R wk) : Calls Try.prog 20 #[.pointer (some ⟨jb, 0, none⟩)] w fun e w' => e = .returned (.int .i64 (if wk = true then leftF R ((ct - 1) * M.sz) else -1)) ∧ Below w.heap.size w w' := by
  obtain ⟨S, SD, vs, h1, h2⟩ := h.lj
  exact left_any S SD w jb b M fs ct (streamF R) wk vs h1
theorem JR.down (h : JR B T w jb b M fs ct R wk) : Calls Try.prog 22 #[.pointer (some ⟨jb, 0, none⟩)] w fun e w' => e = .returned (.bool (!wk)) ∧ w = w' := by
  obtain ⟨S, SD, vs, h1, h2⟩ := h.lj
  exact jdown_any S SD w jb b M fs ct (streamF R) wk vs h1
theorem byt_stream {X : List (List Int)} (h : ∀ l ∈ X, Byt l) : Byt (streamF X) := fun x hx => by
  unfold streamF at hx
  obtain ⟨l, hl, hx⟩ := List.mem_flatMap.1 hx
  unfold recE at hx
  rcases List.mem_append.1 hx with h1 | h1
  · exact Wr.enc_byte _ x h1
  · exact h l hl x h1
/-- What an operation leaves. -/
def JrQ (B : Nat) (T : Nat → Prop) (w w' : World) (jb b : Nat) (M : DM) (fs ct : Nat) (R : List (List Int)) (wk rs : Bool) (X : List (List Int)) (cd : Int) : Prop := ∃ M' R' wk', JR B T w' jb b M' fs ct R' wk' ∧ Below B w w' ∧ Keeps T w w' ∧ OpQ M fs ct R wk rs X cd M' R' wk'
theorem JR.left_by {S : Nat → Prop} {SD : Nat → Prop} {vs : Value} {rs : Bool} {X : List (List Int)} {cd : Int} {M' : DM} {R' : List (List Int)} {wk' : Bool} (h : JR B T w jb b M fs ct R wk) (t : TR B T w) (_h1 : JK S SD w jb b M fs ct (streamF R) wk vs) (h2 : ∀ k, S k → B ≤ k ∧ k < w.heap.size ∧ ¬ T k) (hb : ∀ l ∈ X, Byt l) (q2 : JkNx S w w' jb b M' fs ct R' wk') (q3 : Kept S w w') (q4 : OpQ M fs ct R wk rs X cd M' R' wk') : JrQ B T w w' jb b M fs ct R wk rs X cd := by
  have hB := t.hB
  refine ⟨M', R', wk', ?_, q3.below hB fun k hk => (h2 k hk).1, ⟨q3.size, fun k hk hl => q3.block k hl fun hs => (h2 k hs).2.2 hk⟩, q4⟩
  obtain ⟨S', SD', vs', j', hs'⟩ := q2
  have hRX := byt_stream hb
  have lj' : ∃ S SD vs, JK S SD w' jb b M' fs ct (streamF R') wk' vs ∧ ∀ k, S k → B ≤ k ∧ k < w'.heap.size ∧ ¬ T k := ⟨S', SD', vs', j', fun k hk => by
    have hsz := q3.size
    rcases hs' k hk with h3 | h3
    · exact ⟨(h2 k h3).1, Nat.lt_of_lt_of_le (h2 k h3).2.1 hsz, (h2 k h3).2.2⟩
    · exact ⟨by omega, h3.2, fun ht => by have := t.lt k ht; omega⟩⟩
  have rM' : RngM M' := q4.rng h.rM h.rR hRX
  by_cases hg : (wk && !M.off) = true
  · have hwk : wk = true := by cases wk; cases hg; rfl
    have g := h.live hwk
    have hc : M.cache.length = 0 := by rw [g.clean]; rfl
    have rN : Byt (streamF (nxtF R rs X ((ct - 1) * M.sz)).1) := by
      unfold nxtF
      split
      · intro x hx; simp [streamF] at hx
      · split
        · exact h.rR
        · intro x hx
          rw [stream_append] at hx
          rcases List.mem_append.1 hx with h9 | h9
          · exact h.rR x h9
          · exact hRX x h9
    rcases q4.live hg g with ⟨_, e2, e3, e4, _⟩ | ⟨_, e2, e3, _, e5⟩
    · exact ⟨lj', rM', by rw [e2]; exact rN, fun _ => e4, fun h9 => (by rw [e3] at h9; cases h9), by have := q4.cch; omega⟩
    · exact ⟨lj', rM', by rw [e2]; exact h.rR, fun h9 => (by rw [e3] at h9; cases h9), fun _ => Or.inl e5, by have := q4.cch; omega⟩
  · have hg2 : (wk && !M.off) = false := by simpa using hg
    obtain ⟨_, e1, e2, e3⟩ := q4.dead hg2
    refine ⟨lj', rM', by rw [e2]; exact h.rR, fun h9 => (by rw [e3] at h9; cases h9), fun _ => ?_, by rw [e1]; exact h.cch⟩
    rw [e1]
    cases hwk : wk with
    | true => rw [hwk, (h.live hwk).on] at hg2; cases hg2
    | false => exact h.dead hwk
/-- An operation in a run. -/
theorem JR.op (h : JR B T w jb b M fs ct R wk) (t : TR B T w) (rs : Bool) (X : List (List Int)) (a : Option Addr) (n c : Nat) (hX : RB T w (.slice a n c) X) (hb : ∀ l ∈ X, Byt l) (hl : (streamF X).length ≤ 1000000000) :
    Calls Try.prog 17 #[.pointer (some ⟨jb, 0, none⟩), .agg #[.bool rs, .slice a n c]] w fun e w' => ∃ cd, e = .returned (.int .i64 cd) ∧ JrQ B T w w' jb b M fs ct R wk rs X cd := by
  obtain ⟨S, SD, vs, h1, h2⟩ := h.lj
  exact (do_any S SD T w jb b M fs ct R wk vs rs X a n c h1 (fun k hk => (h2 k hk).2.1) (fun k hk => ⟨t.lt k hk, fun hs => (h2 k hs).2.2 hk⟩) hX hl (by have := h.cch; omega)).mono fun e w' ⟨cd, q1, M', R', wk', q2, q3, q4⟩ => ⟨cd, q1, h.left_by t h1 h2 hb q2 q3 q4⟩
theorem JR.append (h : JR B T w jb b M fs ct R wk) (t : TR B T w) (X : List (List Int)) (a : Option Addr) (n c : Nat) (hX : RB T w (.slice a n c) X) (hb : ∀ l ∈ X, Byt l) (hl : (streamF X).length ≤ 1000000000) :
    Calls Try.prog 32 #[.pointer (some ⟨jb, 0, none⟩), .slice a n c] w fun e w' => ∃ cd, e = .returned (.int .i64 cd) ∧ JrQ B T w w' jb b M fs ct R wk false X cd := by
  obtain ⟨S, SD, vs, h1, h2⟩ := h.lj
  exact (app_op S SD T w jb b M fs ct R wk vs X a n c h1 (fun k hk => (h2 k hk).2.1) (fun k hk => ⟨t.lt k hk, fun hs => (h2 k hs).2.2 hk⟩) hX hl (by have := h.cch; omega)).mono fun e w' ⟨cd, q1, M', R', wk', q2, q3, q4⟩ => ⟨cd, q1, h.left_by t h1 h2 hb q2 q3 q4⟩
theorem JR.reset (h : JR B T w jb b M fs ct R wk) (t : TR B T w) :
    Calls Try.prog 35 #[.pointer (some ⟨jb, 0, none⟩)] w fun e w' => ∃ cd, e = .returned (.int .i64 cd) ∧ JrQ B T w w' jb b M fs ct R wk true [] cd := by
  obtain ⟨S, SD, vs, h1, h2⟩ := h.lj
  exact (rst_op S SD w jb b M fs ct R wk vs [] h1 (fun k hk => (h2 k hk).2.1) (by have := h.cch; omega)).mono fun e w' ⟨cd, q1, M', R', wk', q2, q3, q4⟩ => ⟨cd, q1, h.left_by t h1 h2 (by simp) q2 q3 q4⟩
/-- Where the disk does not fail, an operation does as it should. -/
theorem JrQ.good {rs : Bool} {X : List (List Int)} {cd : Int} (h : JR B T w jb b M fs ct R true) (hn : NF M) (q : JrQ B T w w' jb b M fs ct R true rs X cd) : cd = (nxtF R rs X ((ct - 1) * M.sz)).2 ∧ ∃ M', JR B T w' jb b M' fs ct (nxtF R rs X ((ct - 1) * M.sz)).1 true ∧ NF M' ∧ M'.sz = M.sz ∧ M'.secs.length = M.secs.length ∧ Below B w w' ∧ Keeps T w w' ∧ ∀ s, s < M.secs.length → s < fs ∨ fs + ct ≤ s → M'.secs.getD s [] = M.secs.getD s [] := by
  obtain ⟨M', R', wk', j, hb, hk, o⟩ := q
  obtain ⟨n1, n2⟩ := o.nf hn rfl
  rcases o.live (by rw [hn.1]; rfl) (h.live rfl) with ⟨e1, e2, e3, e4, e5⟩ | ⟨e1, _⟩
  · subst e2 e3
    exact ⟨e1, M', j, n1, o.sz, o.len, hb, hk, e5⟩
  · exact absurd e1 n2
/-- Otherwise it may also be interrupted. -/
theorem JrQ.any {rs : Bool} {X : List (List Int)} {cd : Int} (h : JR B T w jb b M fs ct R true) (q : JrQ B T w w' jb b M fs ct R true rs X cd) : ∃ M', M'.sz = M.sz ∧ M'.secs.length = M.secs.length ∧ Below B w w' ∧ Keeps T w w' ∧ ((cd = (nxtF R rs X ((ct - 1) * M.sz)).2 ∧ JR B T w' jb b M' fs ct (nxtF R rs X ((ct - 1) * M.sz)).1 true) ∨ (cd = 8 ∧ JR B T w' jb b M' fs ct R false ∧ Amb M' fs ct R (nxtF R rs X ((ct - 1) * M.sz)).1 ∧ M'.off = true)) := by
  obtain ⟨M', R', wk', j, hb, hk, o⟩ := q
  refine ⟨M', o.sz, o.len, hb, hk, ?_⟩
  rcases o.live (by rw [(h.live rfl).on]; rfl) (h.live rfl) with ⟨e1, e2, e3, e4, e5⟩ | ⟨e1, e2, e3, e4, e5⟩
  · subst e2 e3
    exact Or.inl ⟨e1, j⟩
  · subst e2 e3
    exact Or.inr ⟨e1, j, e4, e5⟩
theorem JrQ.dead {rs : Bool} {X : List (List Int)} {cd : Int} (q : JrQ B T w w' jb b M fs ct R false rs X cd) : cd = 8 ∧ JR B T w' jb b M fs ct R false ∧ Below B w w' ∧ Keeps T w w' := by
  obtain ⟨M', R', wk', j, hb, hk, o⟩ := q
  obtain ⟨e1, e2, e3, e4⟩ := o.dead rfl
  subst e2 e3 e4
  exact ⟨e1, j, hb, hk⟩
/-- Power failures and crashes in a run. -/
theorem JR.fail (h : JR B T w jb b M fs ct R wk) (t : TR B T w) (n : Int) (hn : R64 n) :
    Calls Try.prog 29 #[.pointer (some ⟨b, 0, none⟩), .int .i64 n] w fun e w' => e = .returned (.tuple #[]) ∧ JR B T w' jb b (failF M n) fs ct R wk ∧ Below B w w' ∧ Keeps T w w' := by
  obtain ⟨S, SD, vs, h1, h2⟩ := h.lj
  obtain ⟨f1, f2, f3, f4⟩ := fail_same M n
  refine (IG.fail n hn h1.dk).mono fun e w' ⟨q1, q2, q3⟩ => ⟨q1, ⟨⟨_, _, vs, h1.disk q2 q3 (by rw [f1]) f2, fun k hk => ?_⟩, rng_fail h.rM n, h.rR, fun hw => (h.live hw).fail n, fun hw => by rw [f3, f4]; exact h.dead hw, by rw [f3]; exact h.cch⟩, q3.below t.hB fun k hk => (h2 k (h1.sd k hk)).1, q3.size, fun k hk hl => q3.block k hl fun hs => (h2 k (h1.sd k hs)).2.2 hk⟩
  have hsz := q3.size
  have hB := t.hB
  rcases hk with hk | hk
  · exact ⟨(h2 k hk).1, Nat.lt_of_lt_of_le (h2 k hk).2.1 hsz, (h2 k hk).2.2⟩
  · exact ⟨by omega, hk.2, fun ht => by have := t.lt k ht; omega⟩
theorem JR.crash (h : JR B T w jb b M fs ct R wk) (t : TR B T w) (ko : Option Addr) (kn kc : Nat) (keep : List Bool) (hk : Rd w (.slice ko kn kc) (bls keep) ∧ (0 < (bls keep).length → In (fun k => k < B) (.slice ko kn kc))) :
    Calls Try.prog 23 #[.pointer (some ⟨b, 0, none⟩), .slice ko kn kc] w fun e w' => e = .returned (.tuple #[]) ∧ JR B T w' jb b (crashF M keep) fs ct R wk ∧ Below B w w' ∧ Keeps T w w' := by
  obtain ⟨S, SD, vs, h1, h2⟩ := h.lj
  refine (IG.crash (fun k => k < B) ko kn kc keep (by have := h.cch; omega) hk (fun k hk hS => by have := (h2 k (h1.sd k hS)).1; omega) h1.dk).mono fun e w' ⟨q1, q2, q3⟩ => ⟨q1, ⟨⟨_, _, vs, h1.disk q2 q3 (crash_len M keep) rfl, fun k hk => ?_⟩, rng_crash h.rM keep, h.rR, fun hw => (h.live hw).crash keep, fun _ => Or.inr rfl, by show 0 ≤ _; omega⟩, q3.below t.hB fun k hk => (h2 k (h1.sd k hk)).1, q3.size, fun k hk hl => q3.block k hl fun hs => (h2 k (h1.sd k hs)).2.2 hk⟩
  have hsz := q3.size
  have hB := t.hB
  rcases hk with hk | hk
  · exact ⟨(h2 k hk).1, Nat.lt_of_lt_of_le (h2 k hk).2.1 hsz, (h2 k hk).2.2⟩
  · exact ⟨by omega, hk.2, fun ht => by have := t.lt k ht; omega⟩
theorem DR.down (h : DR B T w b M) : Calls Try.prog 31 #[.pointer (some ⟨b, 0, none⟩)] w fun e w' => e = .returned (.bool M.off) ∧ Below w.heap.size w w' := by
  obtain ⟨SD, h1, _⟩ := h
  exact IG.down h1
theorem DR.cached (h : DR B T w b M) : Calls Try.prog 26 #[.pointer (some ⟨b, 0, none⟩)] w fun e w' => e = .returned (.int .i64 M.cache.length) ∧ Below w.heap.size w w' := by
  obtain ⟨SD, h1, _⟩ := h
  exact IG.cached h1
theorem DR.read (h : DR B T w b M) (s : Int) (hs : R64 s) (hc : M.cache.length ≤ 1000000) : Calls Try.prog 33 #[.pointer (some ⟨b, 0, none⟩), .int .i64 s] w fun e w' => RdQ (readF M s).1 (readF M s).2 w e w' := by
  obtain ⟨SD, h1, _⟩ := h
  exact (IG.read s hs hc h1).mono fun e w' q => q.1
/-- An opening in a run: of a region that holds R. -/
theorem DR.opened (h : DR B T w b M) (t : TR B T w) (hreg : fs + ct ≤ M.secs.length ∧ 2 ≤ ct) (hz : 16 ≤ M.sz) (hr : RngM M) (hc : M.cache = []) (ho : M.off = false) (hy : holdsD M fs ct = some R) :
    Calls Try.prog 15 #[.pointer (some ⟨b, 0, none⟩), .int .i64 fs, .int .i64 ct] w fun e w' => ∃ jb, e = .returned (.tuple #[.pointer (some ⟨jb, 0, none⟩), .int .i64 0]) ∧ JR B T w' jb b M fs ct R true ∧ Below w.heap.size w w' := by
  obtain ⟨SD, h1, h2⟩ := h
  have hok := IG.ok h1
  refine (open_yes SD w b M fs ct h1 (fun k hk => (h2 k hk).2.1) hreg ho hz (rd_ok hok hr hc ho hreg) (by rw [hc]; show 0 ≤ _; omega) R (by rw [holds_rd hc ho hreg]; exact hy)).mono fun e w' ⟨jb, vs, q1, q2, q3⟩ => ⟨jb, q1, ?_, q3⟩
  obtain ⟨g1, g2⟩ := good_open hok hr hc ho hreg hy
  refine ⟨⟨_, _, vs, q2, fun k hk => ?_⟩, hr, g2, fun _ => g1, fun h9 => (by cases h9), by rw [hc]; show 0 ≤ _; omega⟩
  have hsz := q3.size
  have hB := t.hB
  rcases hk with hk | hk
  · exact ⟨(h2 k hk).1, Nat.lt_of_lt_of_le (h2 k hk).2.1 hsz, (h2 k hk).2.2⟩
  · exact ⟨by omega, hk.2, fun ht => by have := t.lt k ht; omega⟩
theorem DR.shut (h : DR B T w b M) (hreg : fs + ct ≤ M.secs.length ∧ 2 ≤ ct) (ho : M.off = true) :
    Calls Try.prog 15 #[.pointer (some ⟨b, 0, none⟩), .int .i64 fs, .int .i64 ct] w fun e w' => e = .returned (.tuple #[.pointer none, .int .i64 8]) ∧ Below w.heap.size w w' := by
  obtain ⟨SD, h1, h2⟩ := h
  exact open_off SD w b M fs ct h1 (fun k hk => (h2 k hk).2.1) hreg ho
end
/-- A new disk in a law's run. -/
theorem dr_new (n z : Nat) (h1 : 1 ≤ n) (h2 : n ≤ 65536) (h3 : 16 ≤ z) (h4 : z ≤ 4096) (w : World) : Calls Try.prog 14 #[.int .i64 n, .int .i64 z] w fun e w' => ∃ b, e = .returned (.tuple #[.pointer (some ⟨b, 0, none⟩), .int .i64 0]) ∧ DR w.heap.size (fun k => k < w.heap.size) w' b (newF n z) ∧ Below w.heap.size w w' :=
  (IG.newY n z h1 h2 h3 h4 w).mono fun e w' ⟨b, q1, q2, q3⟩ => ⟨b, q1, ⟨_, q2, fun k hk => ⟨hk.1, hk.2, by omega⟩⟩, q3⟩
theorem tr_new {w w' : World} (hs : w.heap.size ≤ w'.heap.size) : TR w.heap.size (fun k => k < w.heap.size) w' := ⟨fun k hk => hk, fun k hk => Nat.lt_of_lt_of_le hk hs⟩
theorem new_secs (n z : Nat) : (newF n z).secs.length = n := by simp [newF]
/-- A new disk's regions hold nothing. -/
theorem new_holds (n z fs ct : Nat) (hr : fs + ct ≤ n ∧ 2 ≤ ct) : holdsD (newF n z) fs ct = some [] := by
  unfold holdsD
  rw [show (newF n z).secs.getD fs [] = List.replicate z 0 by simp [newF, List.getD_eq_getElem?_getD, show fs < n by omega]]
  exact hold_zero
theorem new_nf (n z : Nat) : NF (newF n z) := ⟨rfl, rfl⟩
end Go.Proofs.Ytofmijebinnejaa

/- The journal's reference: Head. Bounds on sizes alone. -/
namespace Go.Proofs.Ytofmijebinnejaa
open Go.RowKit
open Wr (enc)
set_option maxRecDepth 100000
set_option maxHeartbeats 3200000

theorem rhead_any (z n : Nat) (hn : n ≤ 268435456) (hz : 16 ≤ z) (hz2 : z ≤ 4096) (w : World) :
    Calls Try.prog 34 #[.int .i64 z, .int .i64 n] w fun e w' => ∃ x c, e = .returned (.slice x z c) ∧ Rd w' (.slice x z c) (by8 (headF z n)) ∧ Below w.heap.size w w' := by
  have hb := headB_len hn
  have CT := hid_of (ftext_any w)
  have e7 : (enc 7).length = 1 := by rw [Wr.enc_lt (by omega)]; rfl
  have hL : (enc 7 ++ jnT).length = 8 := by rw [List.length_append, e7]; rfl
  have d3 : IntKind.u64.wrap (n : Int) = (n : Int) := IntWalk.u64_in _ (by omega)
  have CU := hid_of (fun (X : World) (x0 : Option Addr) (n0 c0 : Nat) (h : EO w X (.slice x0 n0 c0) (enc 7 ++ jnT)) => fuint_eo n h (by omega) (by omega))
  obtain ⟨q, hq⟩ : ∃ q, q = (headB n).length := ⟨_, rfl⟩
  have HB : Hid (enc 7 ++ jnT ++ enc n = headB n) := hid_of (by rw [List.append_assoc]; rfl)
  have HF : Hid (headB n ++ List.replicate (z - q) 0 = headF z n) := hid_of (by rw [headF, hq])
  rw [← hq] at hb
  have HQ := hid_of hq
  clear e7 hL hq
  go_enter Try.func34, Try.ntmps34
  go_wp2_with (first
    | (go_at_call 57; (refine (CT.out).mono ?_); (rintro e w1 ⟨x1, k1, c1, rfl, q1, q2⟩); have O1 := hid_of q1; clear q1 q2)
    | (go_at_call 42; ((with_reducible refine (CU.out w1 x1 k1 c1 O1.out).mono ?_); (rintro e w2 ⟨x2, k2, c2, rfl, q1, q2⟩)); have O2 : Hid (EO w w2 (.slice x2 k2 c2) (headB n)) := hid_of (by rw [← HB.out]; exact q1); clear q1 q2))
  go_loopw [5] (fun bv wr => ∃ (k : Nat) (ao : Option Addr) (m cap : Nat), bv = .slice ao m cap ∧ k ≤ z - q ∧ m = q + k ∧ Hid (EO w wr (.slice ao m cap) (headB n ++ List.replicate k 0))) (fun bv _ => z - (match bv with | .slice _ m _ => m | _ => 0))
  case atStart => exact ⟨0, x2, k2, c2, rfl, Nat.zero_le _, by rw [eo_len O2.out, ← HQ.out]; rfl, hid_of (by simpa using O2.out)⟩
  case round =>
    obtain ⟨k, ao, m, cap, rfl, hk, hm, ho⟩ := hrel
    by_cases hlt : m < z
    · have d1 : decide (m < z) = true := decide_eq_true hlt
      have hlt' : (m : Int) < (z : Int) := by omega
      have HM := hid_of hm
      have HLT := hid_of hlt
      have HLN : Hid ((by8 (headB n ++ List.replicate k 0)).length = m) := hid_of (by rw [by8_length, ← eo_len ho.out])
      clear hm hk
      go_wp2_with (at_builtin; (refine wpList_app u8E rfl _ _ rfl (v := .slice ao m cap) (l := by8 (headB n ++ List.replicate k 0)) rfl (Ow.alloc ho.out _) (vx := .slice (some ⟨wr.heap.size, 0, none⟩) 1 1) (m := [.int .u8 0]) rfl (rd_new rfl rfl (by simp)) (by intro u hu; rw [List.mem_singleton.1 hu]; rfl) (by have := HLN.out; have := HLT.out; simp only [List.length_singleton]; omega) (by have := HLN.out; have := HLT.out; simp only [List.length_singleton]; omega) ?_); intro xo2 n2 c2 w2 hn2 h2; have N2 : Hid (n2 = m + 1) := hid_of (by rw [hn2, HLN.out]; rfl); have H2 : Hid (EO w w2 (.slice xo2 n2 c2) (headB n ++ List.replicate (k + 1) 0)) := hid_of (by unfold EO; rw [List.replicate_succ', ← List.append_assoc, by8_app]; exact h2); clear h2 hn2)
      go_roundw
      case rel => exact ⟨k + 1, _, _, _, rfl, by have := HM.out; have := HLT.out; omega, by rw [N2.out, HM.out]; rfl, H2⟩
      case measure => have := HLT.out; have := N2.out; simp; omega
    · have d1 : decide (m < z) = false := decide_eq_false hlt
      have hk2 : k = z - q := by omega
      have hmz : m = z := by omega
      subst hk2
      have HR : Hid (Rd wr (.slice ao z cap) (by8 (headF z n))) := hid_of (by have h9 := ho.out; rw [HF.out, hmz] at h9; exact h9.rdd (by rw [headF_len hn hz]; omega))
      have HM := hid_of hmz
      clear hm hmz
      go_wp2
      go_ret
      exact ⟨ao, cap, by rw [← HM.out]; rfl, HR.out, ho.out.bel⟩
end Go.Proofs.Ytofmijebinnejaa

/- awake of the journal's laws. Bounds on sizes alone. -/
namespace Go.Proofs.Ytofmijebinnejaa
open Go.RowKit
open Wr (enc enc_lt dec dec_canon decRun decRun_some)
set_option maxRecDepth 100000
set_option maxHeartbeats 6400000

/-- A head that names a length is written so. -/
theorem hd_canon {h : List Int} {n : Nat} (hr : Byt h) (hd : hdF h = some n) : (h = List.replicate h.length 0 ∧ n = 0) ∨ ∃ m, h = headB n ++ List.replicate m 0 := by
  unfold hdF at hd
  split at hd
  · rename_i hz
    simp only [Option.some.injEq] at hd
    refine Or.inl ⟨List.eq_replicate_iff.2 ⟨rfl, fun x hx => ?_⟩, hd.symm⟩
    have := List.all_eq_true.1 hz x hx
    simpa using this
  · split at hd
    · rename_i k m hk
      split at hd
      · rename_i hj
        split at hd
        · rename_i n2 k2 hd2
          split at hd
          · rename_i hz
            simp only [Option.some.injEq] at hd
            subst hd
            obtain ⟨h1, h2⟩ := decRun_some hk
            have c1 := dec_canon hr h1
            have c2 := dec_canon (fun y hy => hr y (List.mem_of_mem_drop hy)) hd2
            have hm : m = 7 := by
              have := congrArg List.length hj
              rw [List.length_take, List.length_drop] at this
              have e : jnT.length = 7 := rfl
              omega
            subst hm
            right
            refine ⟨(h.drop (k + 7 + k2)).length, ?_⟩
            have hz2 : h.drop (k + 7 + k2) = List.replicate (h.drop (k + 7 + k2)).length 0 := List.eq_replicate_iff.2 ⟨rfl, fun x hx => by
              have := List.all_eq_true.1 hz x hx
              simpa using this⟩
            rw [← hz2, headB, ← c1, ← hj, ← c2, List.append_assoc, List.append_assoc, ← List.drop_drop (i := k2), List.take_append_drop, ← List.drop_drop (i := 7), List.take_append_drop, List.take_append_drop]
          · cases hd
        · cases hd
      · cases hd
    · cases hd
def aR : List (List Int) := [[97, 98], []]
theorem aR_stream : streamF aR = [2, 97, 98, 0] := by
  unfold aR streamF recE
  simp [enc_lt]
theorem aR_byt : ∀ l ∈ aR, Byt l := fun l hl x hx => by
  unfold aR at hl
  simp at hl
  rcases hl with rfl | rfl
  · simp at hx; omega
  · simp at hx
section
variable {B : Nat} {T : Nat → Prop} {w : World} {jb b : Nat} {M : DM}
theorem left_31 (h : JR B T w jb b M 0 3 [] true) (hz : M.sz = 16) : Calls Try.prog 20 #[.pointer (some ⟨jb, 0, none⟩)] w fun e w' => e = .returned (.int .i64 31) ∧ Below w.heap.size w w' := by
  have := h.left
  rw [if_pos rfl, hz, show leftF [] ((3 - 1) * 16) = 31 by simp [leftF, streamF, bestL, enc_lt]] at this
  exact this
theorem left_27 (h : JR B T w jb b M 0 3 aR true) (hz : M.sz = 16) : Calls Try.prog 20 #[.pointer (some ⟨jb, 0, none⟩)] w fun e w' => e = .returned (.int .i64 27) ∧ Below w.heap.size w w' := by
  have := h.left
  rw [if_pos rfl, hz, show leftF aR ((3 - 1) * 16) = 27 by simp [leftF, aR_stream, bestL, enc_lt]] at this
  exact this
theorem aw_app1 (h : JR B T w jb b M 0 3 [] true) (t : TR B T w) (hn : NF M) (hz : M.sz = 16) (a : Option Addr) (n c : Nat) (hX : RB T w (.slice a n c) aR) : Calls Try.prog 32 #[.pointer (some ⟨jb, 0, none⟩), .slice a n c] w fun e w' => e = .returned (.int .i64 0) ∧ ∃ M', JR B T w' jb b M' 0 3 aR true ∧ NF M' ∧ M'.sz = 16 ∧ Below B w w' := by
  refine (h.append t aR a n c hX aR_byt (by rw [aR_stream]; simp)).mono fun e w' ⟨cd, q1, q2⟩ => ?_
  obtain ⟨e1, M', j, k1, k2, _, k3, _⟩ := JrQ.good h hn q2
  have hx : nxtF [] false aR ((3 - 1) * M.sz) = (aR, 0) := by rw [hz]; unfold nxtF; rw [if_neg (by simp), if_neg (by rw [List.nil_append, aR_stream]; simp)]; rfl
  rw [hx] at e1 j
  exact ⟨by rw [q1, e1], M', j, k1, k2.trans hz, k3⟩
theorem aw_app2 (h : JR B T w jb b M 0 3 aR true) (t : TR B T w) (hn : NF M) (hz : M.sz = 16) (a : Option Addr) (n c : Nat) (hX : RB T w (.slice a n c) [List.replicate 28 0]) : Calls Try.prog 32 #[.pointer (some ⟨jb, 0, none⟩), .slice a n c] w fun e w' => e = .returned (.int .i64 7) ∧ ∃ M', JR B T w' jb b M' 0 3 aR true ∧ NF M' ∧ M'.sz = 16 ∧ Below B w w' := by
  have hs : streamF (aR ++ [List.replicate 28 0]) = [2, 97, 98, 0] ++ (28 :: List.replicate 28 0) := by rw [stream_append, aR_stream]; simp [streamF, recE, enc_lt]
  refine (h.append t [List.replicate 28 0] a n c hX (fun l hl x hx => by rw [List.mem_singleton.1 hl] at hx; have := List.eq_of_mem_replicate hx; omega) (by simp [streamF, recE, enc_lt])).mono fun e w' ⟨cd, q1, q2⟩ => ?_
  obtain ⟨e1, M', j, k1, k2, _, k3, _⟩ := JrQ.good h hn q2
  have hx : nxtF aR false [List.replicate 28 0] ((3 - 1) * M.sz) = (aR, 7) := by rw [hz]; unfold nxtF; rw [if_neg (by simp), if_pos (by rw [hs]; simp)]
  rw [hx] at e1 j
  exact ⟨by rw [q1, e1], M', j, k1, k2.trans hz, k3⟩
theorem aw_reset (h : JR B T w jb b M 0 3 aR true) (t : TR B T w) (hn : NF M) (hz : M.sz = 16) : Calls Try.prog 35 #[.pointer (some ⟨jb, 0, none⟩)] w fun e w' => e = .returned (.int .i64 0) ∧ ∃ M', JR B T w' jb b M' 0 3 [] true ∧ NF M' ∧ M'.sz = 16 ∧ Below B w w' := by
  refine (h.reset t).mono fun e w' ⟨cd, q1, q2⟩ => ?_
  obtain ⟨e1, M', j, k1, k2, _, k3, _⟩ := JrQ.good h hn q2
  have hx : nxtF aR true [] ((3 - 1) * M.sz) = ([], 0) := rfl
  rw [hx] at e1 j
  exact ⟨by rw [q1, e1], M', j, k1, k2.trans hz, k3⟩
theorem aw_head (h : JR B T w jb b M 0 3 aR true) (hz : M.sz = 16) : (readF M 0).1 = headF 16 4 := by
  have g := h.live rfl
  have f := h.fit
  have hl0 : 0 < M.secs.length := by have := f.reg.1; omega
  have h1 : (readF M 0).1 = M.secs.getD 0 [] := read_clean (s := 0) g.clean g.on hl0
  have h2 : (M.secs.getD 0 []).length = 16 := by rw [← hz]; exact sec_len f.ok (by have := f.reg; omega)
  have h3 := g.hd
  rw [aR_stream] at h3
  rw [h1]
  rcases hd_canon (rng_get h.rM 0) h3 with ⟨_, h4⟩ | ⟨m, h4⟩
  · simp at h4
  · rw [h4]
    have h5 : (headB 4).length = 9 := by unfold headB; simp [enc_lt, jnT]
    rw [h4, List.length_append, List.length_replicate] at h2
    have h6 : m = 16 - (headB 4).length := by have h7 : ([2, 97, 98, 0] : List Int).length = 4 := rfl; rw [h7] at h2; omega
    rw [h6]
    rfl
end
/-- The records of the example, as the law lays them. -/
theorem aw_rows (w : World) : ∃ W, W = ((w.alloc (.cells #[.int .u8 97, .int .u8 98] 5 (2, 3))).alloc (.cells #[] 5)).alloc (.cells #[.slice (some ⟨w.heap.size, 0, none⟩) 2 2, .slice (some ⟨w.heap.size + 1, 0, none⟩) 0 0] 46) ∧ RB (fun k => w.heap.size ≤ k ∧ k < W.heap.size) W (.slice (some ⟨w.heap.size + 2, 0, none⟩) 2 2) aR ∧ Below w.heap.size w W := by
  refine ⟨_, rfl, ?_, ?_⟩
  · have s1 : (w.alloc (.cells #[.int .u8 97, .int .u8 98] 5 (2, 3))).heap.size = w.heap.size + 1 := by simp
    have s2 : ((w.alloc (.cells #[.int .u8 97, .int .u8 98] 5 (2, 3))).alloc (.cells #[] 5)).heap.size = w.heap.size + 2 := by simp
    have s3 : (((w.alloc (.cells #[.int .u8 97, .int .u8 98] 5 (2, 3))).alloc (.cells #[] 5)).alloc (.cells #[.slice (some ⟨w.heap.size, 0, none⟩) 2 2, .slice (some ⟨w.heap.size + 1, 0, none⟩) 0 0] 46)).heap.size = w.heap.size + 3 := by simp
    have b1 := bel_alloc w (.cells #[.int .u8 97, .int .u8 98] 5 (2, 3))
    have b2 := bel_alloc (w.alloc (.cells #[.int .u8 97, .int .u8 98] 5 (2, 3))) (.cells #[] 5)
    have b3 := bel_alloc ((w.alloc (.cells #[.int .u8 97, .int .u8 98] 5 (2, 3))).alloc (.cells #[] 5)) (.cells #[.slice (some ⟨w.heap.size, 0, none⟩) 2 2, .slice (some ⟨w.heap.size + 1, 0, none⟩) 0 0] 46)
    have r1 : Rd (w.alloc (.cells #[.int .u8 97, .int .u8 98] 5 (2, 3))) (.slice (some ⟨w.heap.size, 0, none⟩) 2 2) (by8 [97, 98]) := rd_new rfl rfl (by simp [by8])
    have r2 : Rd ((w.alloc (.cells #[.int .u8 97, .int .u8 98] 5 (2, 3))).alloc (.cells #[] 5)) (.slice (some ⟨w.heap.size + 1, 0, none⟩) 0 0) (by8 []) := by rw [← s1]; exact rd_new rfl rfl (by simp [by8])
    have r3 : Rd (((w.alloc (.cells #[.int .u8 97, .int .u8 98] 5 (2, 3))).alloc (.cells #[] 5)).alloc (.cells #[.slice (some ⟨w.heap.size, 0, none⟩) 2 2, .slice (some ⟨w.heap.size + 1, 0, none⟩) 0 0] 46)) (.slice (some ⟨w.heap.size + 2, 0, none⟩) 2 2) [.slice (some ⟨w.heap.size, 0, none⟩) 2 2, .slice (some ⟨w.heap.size + 1, 0, none⟩) 0 0] := by rw [← s2]; exact rd_new rfl rfl (by simp)
    refine ⟨_, r3, fun _ a n c e => ?_, rfl, fun i x l hx hl => ?_⟩
    · cases e
      exact ⟨by show w.heap.size ≤ w.heap.size + 2; omega, by show w.heap.size + 2 < _; omega⟩
    · unfold aR at hl
      rcases i with _ | _ | i
      · simp at hx hl
        subst hx hl
        exact ⟨(r1.at b2).at b3, fun _ a n c e => by cases e; exact ⟨Nat.le_refl _, by show w.heap.size < _; omega⟩⟩
      · simp at hx hl
        subst hx hl
        exact ⟨r2.at b3, fun h0 => by simp at h0⟩
      · simp at hx
  · exact (bel_alloc w _).trans (((bel_alloc _ _).mono (by simp)).trans ((bel_alloc _ _).mono (by simp; omega)))
end Go.Proofs.Ytofmijebinnejaa

/- awake of the journal's laws: the walk. Bounds on sizes alone. -/
namespace Go.Proofs.Ytofmijebinnejaa
open Go.RowKit
set_option maxRecDepth 100000
set_option maxHeartbeats 12800000

def BoP (x : Bool) (w : World) (e : Ending) (w' : World) : Prop := e = .returned (.bool x) ∧ Below w.heap.size w w'
theorem aw_open {B : Nat} {T : Nat → Prop} {w : World} {b : Nat} (h : DR B T w b (newF 3 16)) (t : TR B T w) : Calls Try.prog 15 #[.pointer (some ⟨b, 0, none⟩), .int .i64 0, .int .i64 3] w fun e w' => ∃ jb, e = .returned (.tuple #[.pointer (some ⟨jb, 0, none⟩), .int .i64 0]) ∧ JR B T w' jb b (newF 3 16) 0 3 [] true ∧ Below w.heap.size w w' :=
  h.opened (fs := 0) (ct := 3) t ⟨by rw [new_secs]; omega, by omega⟩ (by show 16 ≤ 16; omega) (rng_new 3 16) rfl rfl (new_holds 3 16 0 3 ⟨by omega, by omega⟩)
/-- One slice of 28 zeros, as the law lays it. -/
theorem aw_long (w : World) : RB (fun k => w.heap.size ≤ k ∧ k < ((w.alloc (.cells (Array.replicate 28 (.int .u8 0)) 5)).alloc (.cells #[.slice (some ⟨w.heap.size, 0, none⟩) 28 28] 46)).heap.size) ((w.alloc (.cells (Array.replicate 28 (.int .u8 0)) 5)).alloc (.cells #[.slice (some ⟨w.heap.size, 0, none⟩) 28 28] 46)) (.slice (some ⟨w.heap.size + 1, 0, none⟩) 1 1) [List.replicate 28 0] := by
  have s1 : (w.alloc (.cells (Array.replicate 28 (.int .u8 0)) 5)).heap.size = w.heap.size + 1 := by simp
  have s2 : ((w.alloc (.cells (Array.replicate 28 (.int .u8 0)) 5)).alloc (.cells #[.slice (some ⟨w.heap.size, 0, none⟩) 28 28] 46)).heap.size = w.heap.size + 2 := by simp
  have b2 := bel_alloc (w.alloc (.cells (Array.replicate 28 (.int .u8 0)) 5)) (.cells #[.slice (some ⟨w.heap.size, 0, none⟩) 28 28] 46)
  have r1 : Rd (w.alloc (.cells (Array.replicate 28 (.int .u8 0)) 5)) (.slice (some ⟨w.heap.size, 0, none⟩) 28 28) (by8 (List.replicate 28 0)) := rd_new (by simp [by8]) (by apply Array.ext'; simp [by8]) (by simp [by8])
  have r3 : Rd ((w.alloc (.cells (Array.replicate 28 (.int .u8 0)) 5)).alloc (.cells #[.slice (some ⟨w.heap.size, 0, none⟩) 28 28] 46)) (.slice (some ⟨w.heap.size + 1, 0, none⟩) 1 1) [.slice (some ⟨w.heap.size, 0, none⟩) 28 28] := by rw [← s1]; exact rd_new rfl rfl (by simp)
  refine ⟨_, r3, fun _ a n c e => ?_, rfl, fun i x l hx hl => ?_⟩
  · cases e
    exact ⟨by show w.heap.size ≤ w.heap.size + 1; omega, by show w.heap.size + 1 < _; omega⟩
  · rcases i with _ | i
    · simp only [List.getElem?_cons_zero, Option.some.injEq] at hx hl
      subst hx hl
      exact ⟨r1.at b2, fun _ a n c e => by cases e; exact ⟨Nat.le_refl _, by show w.heap.size < _; omega⟩⟩
    · simp at hx
theorem awake_any (w : World) : Calls Try.prog 12 #[] w (BoP true w) := by
  obtain ⟨B, hB⟩ : ∃ B, B = w.heap.size := ⟨_, rfl⟩
  have CN := hid_of (dr_new 3 16 (by omega) (by omega) (by omega) (by omega) w)
  rw [← hB] at CN
  have CN2 : Hid (Calls Try.prog 14 #[.int .i64 3, .int .i64 16] w fun e w' => ∃ b, e = .returned (.tuple #[.pointer (some ⟨b, 0, none⟩), .int .i64 0]) ∧ DR B (fun k => k < B) w' b (newF 3 16) ∧ Below B w w') := CN
  clear CN
  have TN := hid_of (fun (X : World) (h : Below B w X) => show TR B (fun k => k < B) X from by have h9 := tr_new (w := w) (w' := X) (by have := h.size; omega); rwa [← hB] at h9)
  -- the states
  have S0 : Hid (NF (newF 3 16) ∧ (newF 3 16).sz = 16) := hid_of ⟨new_nf 3 16, rfl⟩
  have CO := hid_of (fun (X : World) (b : Nat) (h : DR B (fun k => k < B) X b (newF 3 16)) (t : TR B (fun k => k < B) X) => aw_open h t)
  have CL := hid_of (fun (T : Nat → Prop) (X : World) (jb b : Nat) (M : DM) (h : JR B T X jb b M 0 3 [] true) (hz : M.sz = 16) => left_31 h hz)
  have CL2 := hid_of (fun (T : Nat → Prop) (X : World) (jb b : Nat) (M : DM) (h : JR B T X jb b M 0 3 aR true) (hz : M.sz = 16) => left_27 h hz)
  have CA := hid_of (fun (T : Nat → Prop) (X : World) (jb b : Nat) (M : DM) (h : JR B T X jb b M 0 3 [] true) (t : TR B T X) (hn : NF M ∧ M.sz = 16) (a : Option Addr) (n c : Nat) (hX : RB T X (.slice a n c) aR) => aw_app1 h t hn.1 hn.2 a n c hX)
  have CA2 := hid_of (fun (T : Nat → Prop) (X : World) (jb b : Nat) (M : DM) (h : JR B T X jb b M 0 3 aR true) (t : TR B T X) (hn : NF M ∧ M.sz = 16) (a : Option Addr) (n c : Nat) (hX : RB T X (.slice a n c) [List.replicate 28 0]) => aw_app2 h t hn.1 hn.2 a n c hX)
  have CX := hid_of (fun (T : Nat → Prop) (X : World) (jb b : Nat) (M : DM) (h : JR B T X jb b M 0 3 aR true) (t : TR B T X) (hn : NF M ∧ M.sz = 16) => aw_reset h t hn.1 hn.2)
  have CRc := hid_of (fun (T : Nat → Prop) (X : World) (jb b : Nat) (M : DM) (R : List (List Int)) (h : JR B T X jb b M 0 3 R true) (t : TR B T X) => h.records t)
  have CD := hid_of (fun (T : Nat → Prop) (X : World) (jb b : Nat) (M : DM) (R : List (List Int)) (h : JR B T X jb b M 0 3 R true) => h.down)
  have CR := hid_of (fun (T : Nat → Prop) (X : World) (jb b : Nat) (M : DM) (h : JR B T X jb b M 0 3 aR true) (hz : M.sz = 16) => show Calls Try.prog 33 #[.pointer (some ⟨b, 0, none⟩), .int .i64 0] X (fun e w' => ∃ x n c, e = .returned (.tuple #[.slice x n c, .int .i64 0]) ∧ Rd w' (.slice x n c) (by8 (headF 16 4)) ∧ Below X.heap.size X w') from by
    have h1 := h.disk.read 0 ⟨by omega, by omega⟩ (by have := h.cch; omega)
    have f := h.fit
    have g := h.live rfl
    have h2 : (readF M 0).2 = 0 := by
      have hf : M.fits 0 = true := by have := f.reg; simp only [DM.fits, decide_eq_true_eq]; omega
      rw [readF, if_neg (by rw [hf]; simp), if_neg (by rw [g.on]; simp)]
    rw [aw_head h hz, h2] at h1
    exact h1)
  have CH := hid_of (fun (X : World) => show Calls Try.prog 34 #[.int .i64 16, .int .i64 4] X (fun e w' => ∃ x c, e = .returned (.slice x 16 c) ∧ Rd w' (.slice x 16 c) (by8 (headF 16 4)) ∧ Below X.heap.size X w') from rhead_any 16 4 (by omega) (by omega) (by omega) X)
  have CS := hid_of (fun (S1 S2 : Nat → Prop) (a1 : Option Addr) (n1 c1 : Nat) (a2 : Option Addr) (n2 c2 : Nat) (X : World) (h1 : RB S1 X (.slice a1 n1 c1) aR) (h2 : RB S2 X (.slice a2 n2 c2) aR) => show Calls Try.prog 18 #[.slice a1 n1 c1, .slice a2 n2 c2] X (fun e w' => e = .returned (.bool true) ∧ Below X.heap.size X w') from (same_any S1 S2 aR aR a1 n1 c1 a2 n2 c2 X h1 h2).mono fun e w' ⟨x, q1, q2, q3⟩ => ⟨by rw [q1, q2 rfl], q3⟩)
  obtain ⟨s, hs⟩ : ∃ s, s = strOfNums (headF 16 4) := ⟨_, rfl⟩
  have CV := hid_of (fun (X : World) (x : Option Addr) (n c : Nat) (h : Rd X (.slice x n c) (by8 (headF 16 4))) => show (convert 46 9 (.slice x n c)).run Try.prog X = .ok (.string s) X from by rw [hs]; exact conv_by8 h)
  have CB2 := hid_of (fun (X : World) => show (convert 46 46 (.slice (some ⟨X.heap.size, 0, none⟩) 2 2)).run Try.prog (X.alloc (.cells #[.int .u8 97, .int .u8 98] 5)) = .ok (.slice (some ⟨X.heap.size, 0, none⟩) 2 2) (X.alloc (.cells #[.int .u8 97, .int .u8 98] 5 (2, 3))) from Go.Joins.run_convert_bytes_const_at X 46 5 #[.int .u8 97, .int .u8 98] 2 2 X.heap.size rfl Try.underlying46 Try.underlying5)
  obtain ⟨z28, hz28⟩ : ∃ z, z = Array.replicate 28 (Value.int .u8 0) := ⟨_, rfl⟩
  have MK : ∀ X : World, (Instr.makeSlice 46 (.int .i64 28) (.int .i64 28)).run Try.prog X = .ok (.slice (some ⟨X.heap.size, 0, none⟩) 28 28) (X.alloc (.cells z28 5)) := fun X => by
    have h := run_make_row' (P := Try.prog) 46 5 (.int .u8 0) 1 u8E.und u8E.info rfl .i64 .i64 28 (by omega) (by omega) X
    rw [show madeCells #[Value.int .u8 0] 28 = z28 by rw [hz28, ← Array.toList_inj]; simp [toList_madeCells_one]] at h
    exact h
  have CLg := hid_of (fun (X : World) => show RB (fun k => X.heap.size ≤ k ∧ k < ((X.alloc (.cells z28 5)).alloc (.cells #[.slice (some ⟨X.heap.size, 0, none⟩) 28 28] 46)).heap.size) ((X.alloc (.cells z28 5)).alloc (.cells #[.slice (some ⟨X.heap.size, 0, none⟩) 28 28] 46)) (.slice (some ⟨X.heap.size + 1, 0, none⟩) 1 1) [List.replicate 28 0] from by rw [hz28]; exact aw_long X)
  clear hz28
  have hss : (s.toList == s.toList) = true := beq_self_eq_true _
  clear hs
  rw [show BoP true w = fun e w' => e = .returned (.bool true) ∧ Below B w w' from by rw [hB]; rfl]
  clear hB
  go_enter Try.func12, Try.ntmps12
  go_wp2_with (first
    | (go_at_call 14; ((with_reducible refine (CN2.out).mono ?_); (rintro e w1 ⟨b, rfl, q1, q2⟩)); have D1 := hid_of q1; have B1 := hid_of q2; have T1 := hid_of (TN.out w1 q2); clear q1 q2)
    | (go_at_call 15; ((with_reducible refine (CO.out w1 b D1.out T1.out).mono ?_); (rintro e w2 ⟨jb, rfl, q1, q2⟩)); have J2 := hid_of q1; have B2 := hid_of (B1.out.trans (q2.mono T1.out.hB)); have T2 := hid_of (T1.out.same q2.size); clear q1 q2)
    | (go_at_call 20; ((with_reducible refine (CL.out _ w2 jb b _ J2.out S0.out.2).mono ?_); (rintro e w3 ⟨rfl, q2⟩)); have J3 := hid_of (J2.out.bel0 T2.out q2); have B3 := hid_of (B2.out.trans (q2.mono T2.out.hB)); have T3 := hid_of (T2.out.same q2.size); obtain ⟨W4, hW4, r4, b4⟩ := aw_rows w3; have v3 := CB2.out w3; have J4 := hid_of (J3.out.bel b4); have T4 := hid_of (T3.out.next b4.size); have R4 := hid_of (r4.mono (T := Tn (fun k => k < B) w3 W4) fun k hk => Or.inr hk); have B4 := hid_of (B3.out.trans (b4.mono T3.out.hB)); clear q2 r4 b4)
    | (go_at_call 32; rw [← hW4]; ((with_reducible refine (CA.out _ W4 jb b _ J4.out T4.out S0.out _ _ _ R4.out).mono ?_); (rintro e w5 ⟨rfl, ⟨M5, q1, q2, q3, q4⟩⟩)); have J5 := hid_of q1; have N5 := hid_of (And.intro q2 q3); have B5 := hid_of (B4.out.trans q4); have T5 := hid_of (T4.out.same q4.size); clear q1 q2 q3 q4)
    | (go_at_call 20; ((with_reducible refine (CL2.out _ w5 jb b _ J5.out N5.out.2).mono ?_); (rintro e w6 ⟨rfl, q2⟩)); have J6 := hid_of (J5.out.bel0 T5.out q2); have B6 := hid_of (B5.out.trans (q2.mono T5.out.hB)); have T6 := hid_of (T5.out.same q2.size); clear q2)
    | (go_at_call 19; ((with_reducible refine (CRc.out _ w6 jb b _ _ J6.out T6.out).mono ?_); (rintro e w7 ⟨x7, n7, c7, rfl, q1, q2⟩)); have R7 := hid_of q1; have J7 := hid_of (J6.out.bel0 T6.out q2); have B7 := hid_of (B6.out.trans (q2.mono T6.out.hB)); have T7 := hid_of (T6.out.same q2.size); obtain ⟨W8, hW8, r8, b8⟩ := aw_rows w7; have v7 := CB2.out w7; have J8 := hid_of (J7.out.bel0 T7.out b8); have T8 := hid_of (T7.out.same b8.size); have R8 := hid_of r8; have X8 := hid_of (R7.out.keep (w' := W8) ⟨b8.size, fun k _ hl => b8.block k hl⟩); have B8 := hid_of (B7.out.trans (b8.mono T7.out.hB)); clear q1 q2 r8 b8)
    | (go_at_call 18; rw [← hW8]; ((with_reducible refine (CS.out _ _ _ _ _ _ _ _ W8 X8.out R8.out).mono ?_); (rintro e w9 ⟨rfl, q2⟩)); have J9 := hid_of (J8.out.bel0 T8.out q2); have B9 := hid_of (B8.out.trans (q2.mono T8.out.hB)); have T9 := hid_of (T8.out.same q2.size); clear q2)
    | (go_at_call 33; ((with_reducible refine (CR.out _ w9 jb b _ J9.out N5.out.2).mono ?_); (rintro e wA ⟨xA, nA, cA, rfl, q1, q2⟩)); have RA := hid_of q1; have JA := hid_of (J9.out.bel0 T9.out q2); have BA := hid_of (B9.out.trans (q2.mono T9.out.hB)); have TA := hid_of (T9.out.same q2.size); clear q1 q2))
  have JD := hid_of (JA.out.bel0 TA.out (w' := wA.drew) (Below.refl _ _).drew)
  have TD := hid_of (TA.out.same (w' := wA.drew) (Nat.le_refl _))
  have BD := hid_of (BA.out.drew)
  have vA := CV.out wA.drew xA nA cA (RA.out.at (Below.refl _ _).drew)
  (go_region_with (first
    | (go_at_call 34; ((with_reducible refine (CH.out wA.drew).mono ?_); (rintro e wB ⟨xB, cB, rfl, q1, q2⟩)); have vB := CV.out wB xB 16 cB q1; have vA2 := CV.out wB xA nA cA (RA.out.at ((Below.refl _ _).drew.trans q2)); have JB := hid_of (JD.out.bel0 TD.out q2); have TB := hid_of (TD.out.same q2.size); have BB := hid_of (BD.out.trans (q2.mono TD.out.hB)); obtain ⟨WC, hWC, b8, r8⟩ : ∃ WC, WC = (wB.alloc (.cells z28 5)).alloc (.cells #[.slice (some ⟨wB.heap.size, 0, none⟩) 28 28] 46) ∧ Below wB.heap.size wB WC ∧ RB (fun k => wB.heap.size ≤ k ∧ k < WC.heap.size) WC (.slice (some ⟨wB.heap.size + 1, 0, none⟩) 1 1) [List.replicate 28 0] := ⟨_, rfl, (bel_alloc wB _).trans ((bel_alloc _ _).mono (by simp)), CLg.out wB⟩; have JC := hid_of (JB.out.bel b8); have TC := hid_of (TB.out.next b8.size); have RC := hid_of (r8.mono (T := Tn (Tn (fun k => k < B) w3 W4) wB WC) fun k hk => Or.inr hk); have BC := hid_of (BB.out.trans (b8.mono TB.out.hB)); clear q1 q2 b8 r8)
    | (go_at_call 32; rw [← hWC]; ((with_reducible refine (CA2.out _ WC jb b _ JC.out TC.out N5.out _ _ _ RC.out).mono ?_); (rintro e wE ⟨rfl, ⟨ME, q1, q2, q3, q4⟩⟩)); have JE := hid_of q1; have NE := hid_of (And.intro q2 q3); have BE := hid_of (BC.out.trans q4); have TE := hid_of (TC.out.same q4.size); clear q1 q2 q3 q4)
    | (go_at_call 35; ((with_reducible refine (CX.out _ wE jb b _ JE.out TE.out NE.out).mono ?_); (rintro e wF ⟨rfl, ⟨MF, q1, q2, q3, q4⟩⟩)); have JF := hid_of q1; have NF := hid_of (And.intro q2 q3); have BF := hid_of (BE.out.trans q4); have TF := hid_of (TE.out.same q4.size); clear q1 q2 q3 q4)
    | (go_at_call 19; ((with_reducible refine (CRc.out _ wF jb b _ _ JF.out TF.out).mono ?_); (rintro e wG ⟨xG, nG, cG, rfl, q1, q2⟩)); have hG := q1.len.1; simp only [List.length_nil] at hG; subst hG; have JG := hid_of (JF.out.bel0 TF.out q2); have BG := hid_of (BF.out.trans (q2.mono TF.out.hB)); have TG := hid_of (TF.out.same q2.size); clear q1 q2)
    | (go_at_call 20; ((with_reducible refine (CL.out _ wG jb b _ JG.out NF.out.2).mono ?_); (rintro e wH ⟨rfl, q2⟩)); have JH := hid_of (JG.out.bel0 TG.out q2); have BH := hid_of (BG.out.trans (q2.mono TG.out.hB)); clear q2)
    | (go_at_call 22; ((with_reducible refine (CD.out _ wH jb b _ _ JH.out).mono ?_); (rintro e wI ⟨rfl, rfl⟩)))))
  all_goals go_wp2
  all_goals go_ret
  all_goals exact ⟨rfl, BH.out⟩
end Go.Proofs.Ytofmijebinnejaa

/- What the journal's laws share. Bounds on sizes alone. -/
namespace Go.Proofs.Ytofmijebinnejaa
open Go.RowKit
open Wr (enc enc_length_10)
set_option maxRecDepth 100000
set_option maxHeartbeats 1600000

theorem stream_bound : ∀ (X : List (List Int)), (∀ r ∈ X, r.length ≤ 300) → (streamF X).length ≤ X.length * 310
  | [], _ => by simp [streamF]
  | x :: X, h => by
    have h1 := stream_bound X fun r hr => h r (by simp [hr])
    have h2 := h x (by simp)
    have h3 := enc_length_10 x.length (by omega)
    rw [streamF_cons]
    simp only [List.length_append, List.length_cons]
    omega
theorem few_stream {l : List JX} (h : FewP l) {x : JX} (hx : x ∈ l) : (streamF x.xs).length ≤ 6200 := by
  have h1 := h.2 x hx
  have h2 := stream_bound x.xs h1.2
  omega
theorem lw_open {B : Nat} {T : Nat → Prop} {w : World} {b : Nat} (n z : Nat) (hn : 2 ≤ n) (hz : 16 ≤ z) (h : DR B T w b (newF n z)) (t : TR B T w) : Calls Try.prog 15 #[.pointer (some ⟨b, 0, none⟩), .int .i64 0, .int .i64 n] w fun e w' => ∃ jb, e = .returned (.tuple #[.pointer (some ⟨jb, 0, none⟩), .int .i64 0]) ∧ JR B T w' jb b (newF n z) 0 n [] true ∧ Below w.heap.size w w' :=
  h.opened (fs := 0) (ct := n) t ⟨by rw [new_secs]; omega, hn⟩ hz (rng_new n z) rfl rfl (new_holds n z 0 n ⟨by omega, hn⟩)
theorem JX.t {B : Nat} {T : Nat → Prop} {w : World} {x : JX} {b : Option Addr} {n c : Nat} (h : x.ok B w) (hv : x.v = .slice b n c) (t : TR B T w) : RB T w (.slice b n c) x.xs := by
  rw [← hv]
  exact h.1.mono fun k hk => t.low k hk
theorem JR.area {B : Nat} {T : Nat → Prop} {w : World} {jb b : Nat} {M : DM} {fs ct : Nat} {R : List (List Int)} {wk : Bool} (h : JR B T w jb b M fs ct R wk) : (streamF R).length ≤ (ct - 1) * M.sz := h.fit.len
/-- The reference's After, in a run. -/
theorem lw_after {B : Nat} {T : Nat → Prop} {w : World} (R X : List (List Int)) (rs : Bool) (a1 : Option Addr) (n1 c1 : Nat) (a2 : Option Addr) (n2 c2 : Nat) (area : Nat) (h1 : RB T w (.slice a1 n1 c1) R) (h2 : RB T w (.slice a2 n2 c2) X) (t : TR B T w) (hl : (streamF R).length ≤ 1000) (hl2 : (streamF X).length ≤ 6200) (ha : area ≤ 1000) :
    Calls Try.prog 16 #[.slice a1 n1 c1, .agg #[.bool rs, .slice a2 n2 c2], .int .i64 area] w fun e w' => ∃ y k c, e = .returned (.tuple #[.slice y k c, .int .i64 (nxtF R rs X area).2]) ∧ RB (Tn T w w') w' (.slice y k c) (nxtF R rs X area).1 ∧ Below w.heap.size w w' :=
  after_any T R X rs a1 n1 c1 a2 n2 c2 area w h1 h2 t.lt (by rw [stream_append, List.length_append]; omega) (by omega)
theorem nxt_len (R : List (List Int)) (rs : Bool) (X : List (List Int)) (area : Nat) (h : (streamF R).length ≤ area) : (streamF (nxtF R rs X area).1).length ≤ area := by
  unfold nxtF
  split
  · simp [streamF]
  · split
    · exact h
    · rename_i h2
      show (streamF (R ++ X)).length ≤ area
      omega
/-- An operation where the disk does not fail. -/
theorem lw_op {B : Nat} {T : Nat → Prop} {w : World} {jb b : Nat} {M : DM} {fs ct : Nat} {R : List (List Int)} (h : JR B T w jb b M fs ct R true) (t : TR B T w) (hn : NF M) (rs : Bool) (X : List (List Int)) (a : Option Addr) (n c : Nat) (hX : RB T w (.slice a n c) X) (hb : ∀ l ∈ X, Byt l) (hl : (streamF X).length ≤ 6200) :
    Calls Try.prog 17 #[.pointer (some ⟨jb, 0, none⟩), .agg #[.bool rs, .slice a n c]] w fun e w' => e = .returned (.int .i64 (nxtF R rs X ((ct - 1) * M.sz)).2) ∧ ∃ M', JR B T w' jb b M' fs ct (nxtF R rs X ((ct - 1) * M.sz)).1 true ∧ NF M' ∧ M'.sz = M.sz ∧ M'.secs.length = M.secs.length ∧ Below B w w' ∧ Keeps T w w' :=
  (h.op t rs X a n c hX hb (by omega)).mono fun e w' ⟨cd, q1, q2⟩ => by
    obtain ⟨e1, M', j, k1, k2, k3, k4, k5, _⟩ := JrQ.good h hn q2
    exact ⟨by rw [q1, e1], M', j, k1, k2, k3, k4, k5⟩
theorem RB.tn {T : Nat → Prop} {w w' : World} {v : Value} {R : List (List Int)} (h : RB T w v R) (hb : Below w.heap.size w w') : RB (Tn T w w') w' v R := (h.keep ⟨hb.size, fun k _ hl => hb.block k hl⟩).mono fun k hk => Or.inl hk
theorem RB.bel {T : Nat → Prop} {w w' : World} {v : Value} {R : List (List Int)} (h : RB T w v R) (hb : Below w.heap.size w w') : RB T w' v R := h.keep ⟨hb.size, fun k _ hl => hb.block k hl⟩
/-- The numbers of a law. -/
theorem lw_num {x : Int} (h : (Lit.int .u8 x).wf = true) : ∃ k : Nat, x = k ∧ k ≤ 255 := by
  have := wf_u8 h
  exact ⟨x.toNat, by omega, by omega⟩
end Go.Proofs.Ytofmijebinnejaa

/- The law Records. Bounds on sizes alone. -/
namespace Go.Proofs.Ytofmijebinnejaa
open Go.RowKit
set_option maxRecDepth 100000
set_option maxHeartbeats 12800000

theorem records_law (x y : Int) (a : Option Addr) (len cap : Nat) (l : List JX) (w : World) (w0 : (Lit.int .u8 x).wf = true) (w1 : (Lit.int .u8 y).wf = true) (w2 : JsIn w.heap.size w a len cap l) :
    Calls Try.prog 3 #[.int .u8 x, .int .u8 y, .slice a len cap] w (BoP true w) := by
  obtain ⟨x, rfl, hx⟩ := lw_num w0
  obtain ⟨y, rfl, hy⟩ := lw_num w1
  clear w0 w1
  obtain ⟨fb, hfb, CF⟩ := few_any w.heap.size a len cap l w w2
  have HCF := hid_of CF
  have AW := hid_of (fun w => awake_any w)
  cases fb with
  | false =>
    clear CF w2
    go_enter Try.func3, Try.ntmps3
    go_wp2_with (first
      | (go_at_call 11; ((with_reducible refine (HCF.out).mono ?_); (rintro e w1 ⟨rfl, rfl⟩)))
      | (go_at_call 12; ((with_reducible refine (AW.out _).mono ?_); (rintro e w2 ⟨rfl, h1⟩)); (have E2 := hid_of h1); clear h1))
    go_ret
    exact ⟨rfl, E2.out⟩
  | true =>
  have hF := hfb rfl
  have CSH := hid_of (fun X => shape_any x y hx hy X)
  obtain ⟨n, hn⟩ : ∃ n, n = 2 + x % 6 := ⟨_, rfl⟩
  obtain ⟨z, hz⟩ : ∃ z, z = 16 + y % 40 := ⟨_, rfl⟩
  rw [← hn, ← hz] at CSH
  have hn2 : 2 ≤ n ∧ n ≤ 7 := by omega
  have hz2 : 16 ≤ z ∧ z ≤ 55 := by omega
  obtain ⟨p, hp⟩ : ∃ p, p = n - 1 := ⟨_, rfl⟩
  obtain ⟨ar, har⟩ : ∃ ar, ar = p * z := ⟨_, rfl⟩
  have har2 : ar ≤ 6 * 55 := by rw [har]; exact Nat.mul_le_mul (by omega) hz2.2
  have s1 : IntKind.i64.wrap ((n : Int) - 1) = (p : Int) := by rw [show (n : Int) - 1 = (p : Int) by omega]; exact IntWalk.i64_in _ (by omega)
  have s2 : IntKind.i64.wrap ((p : Int) * (z : Int)) = (ar : Int) := by rw [← Int.natCast_mul, ← har]; exact IntWalk.i64_in _ (by omega)
  have HAR : Hid ((n - 1) * z = ar) := hid_of (by rw [har, hp])
  have CN := hid_of (fun X => dr_new n z (by omega) (by omega) hz2.1 (by omega) X)
  obtain ⟨B, hB⟩ : ∃ B, B = w.heap.size := ⟨_, rfl⟩
  have HIN := hid_of (fun (X : World) (h : Below B w X) => (show JsIn B X a len cap l by rw [hB] at h ⊢; exact w2.at h))
  have HLL := hid_of w2.1
  have hcap := w2.2.1.cut.2
  have CN2 := hid_of (show Calls Try.prog 14 #[.int .i64 n, .int .i64 z] w fun e w' => ∃ b, e = .returned (.tuple #[.pointer (some ⟨b, 0, none⟩), .int .i64 0]) ∧ DR B (fun k => k < B) w' b (newF n z) ∧ Below B w w' from by rw [hB]; exact CN.out w)
  have TN := hid_of (fun (X : World) (h : Below B w X) => show TR B (fun k => k < B) X from by have h9 := tr_new (w := w) (w' := X) (by have := h.size; omega); rwa [← hB] at h9)
  have CO := hid_of (fun (X : World) (b : Nat) (h : DR B (fun k => k < B) X b (newF n z)) (t : TR B (fun k => k < B) X) => lw_open n z hn2.1 hz2.1 h t)
  have HFM := hid_of (fun (x : JX) (hx : x ∈ l) => few_stream hF hx)
  have CAF := hid_of (fun (T : Nat → Prop) (X : World) (R Xs : List (List Int)) (rs : Bool) (a1 : Option Addr) (n1 c1 : Nat) (a2 : Option Addr) (n2 c2 : Nat) (h1 : RB T X (.slice a1 n1 c1) R) (h2 : RB T X (.slice a2 n2 c2) Xs) (t : TR B T X) (hl : (streamF R).length ≤ ar) (hl2 : (streamF Xs).length ≤ 6200) => lw_after R Xs rs a1 n1 c1 a2 n2 c2 ar h1 h2 t (by omega) hl2 (by omega))
  have COP := hid_of (fun (T : Nat → Prop) (X : World) (jb b : Nat) (M : DM) (R Xs : List (List Int)) (rs : Bool) (a2 : Option Addr) (n2 c2 : Nat) (h : JR B T X jb b M 0 n R true) (t : TR B T X) (hn : NF M ∧ M.sz = z) (hX : RB T X (.slice a2 n2 c2) Xs) (hb : ∀ r ∈ Xs, Byt r) (hl : (streamF Xs).length ≤ 6200) => show Calls Try.prog 17 #[.pointer (some ⟨jb, 0, none⟩), .agg #[.bool rs, .slice a2 n2 c2]] X (fun e w' => e = .returned (.int .i64 (nxtF R rs Xs ar).2) ∧ ∃ M', JR B T w' jb b M' 0 n (nxtF R rs Xs ar).1 true ∧ (NF M' ∧ M'.sz = z) ∧ Below B X w' ∧ Keeps T X w') from by
    refine (lw_op h t hn.1 rs Xs a2 n2 c2 hX hb hl).mono fun e w' ⟨q1, M', q2, q3, q4, _, q5, q6⟩ => ?_
    rw [hn.2, HAR.out] at q1 q2
    exact ⟨q1, M', q2, ⟨q3, q4.trans hn.2⟩, q5, q6⟩)
  have CRC := hid_of (fun (T : Nat → Prop) (X : World) (jb b : Nat) (M : DM) (R : List (List Int)) (h : JR B T X jb b M 0 n R true) (t : TR B T X) => h.records t)
  have CLF := hid_of (fun (T : Nat → Prop) (X : World) (jb b : Nat) (M : DM) (R : List (List Int)) (h : JR B T X jb b M 0 n R true) (hn : NF M ∧ M.sz = z) => show Calls Try.prog 20 #[.pointer (some ⟨jb, 0, none⟩)] X (fun e w' => e = .returned (.int .i64 (leftF R ar)) ∧ Below X.heap.size X w') from by
    have h1 := h.left
    rw [if_pos rfl, hn.2, HAR.out] at h1
    exact h1)
  have CDN := hid_of (fun (T : Nat → Prop) (X : World) (jb b : Nat) (M : DM) (R : List (List Int)) (h : JR B T X jb b M 0 n R true) => h.down)
  have CSM := hid_of (fun (S1 S2 : Nat → Prop) (R : List (List Int)) (a1 : Option Addr) (n1 c1 : Nat) (a2 : Option Addr) (n2 c2 : Nat) (X : World) (h1 : RB S1 X (.slice a1 n1 c1) R) (h2 : RB S2 X (.slice a2 n2 c2) R) => show Calls Try.prog 18 #[.slice a1 n1 c1, .slice a2 n2 c2] X (fun e w' => e = .returned (.bool true) ∧ Below X.heap.size X w') from (same_any S1 S2 R R a1 n1 c1 a2 n2 c2 X h1 h2).mono fun e w' ⟨x, q1, q2, q3⟩ => ⟨by rw [q1, q2 rfl], q3⟩)
  have CRL := hid_of (fun (T : Nat → Prop) (R : List (List Int)) (a1 : Option Addr) (n1 c1 : Nat) (X : World) (h : RB T X (.slice a1 n1 c1) R) (t : TR B T X) (hl : (streamF R).length ≤ ar) => rleft_any T R a1 n1 c1 ar X h t.lt hl (by omega))
  have S0 : Hid (NF (newF n z) ∧ (newF n z).sz = z) := hid_of ⟨new_nf n z, rfl⟩
  have len9 : len ≤ 9223372036854775807 := by omega
  rw [show BoP true w = fun e w' => e = .returned (.bool true) ∧ Below B w w' from by rw [hB]; rfl]
  clear CF w2 hF hfb hn hz hp har hB hcap CN
  go_enter Try.func3, Try.ntmps3
  go_wp2_with (first
    | (go_at_call 11; ((with_reducible refine (HCF.out).mono ?_); (rintro e w1 ⟨rfl, rfl⟩)))
    | (go_at_call 13; ((with_reducible refine (CSH.out _).mono ?_); (rintro e w1 ⟨rfl, rfl⟩)))
    | (go_at_call 14; ((with_reducible refine (CN2.out).mono ?_); (rintro e w1 ⟨b, rfl, q1, q2⟩)); have D1 := hid_of q1; have B1 := hid_of q2; have T1 := hid_of (TN.out w1 q2); clear q1 q2)
    | (go_at_call 15; ((with_reducible refine (CO.out w1 b D1.out T1.out).mono ?_); (rintro e w2 ⟨jb, rfl, q1, q2⟩)); have J2 := hid_of q1; have B2 := hid_of (B1.out.trans (q2.mono T1.out.hB)); have T2 := hid_of (T1.out.same q2.size); clear q1 q2))
  go_loopw [13, 14] (fun lv iv wr => ∃ (i : Nat) (R : List (List Int)) (M : DM) (T : Nat → Prop) (lo : Option Addr) (ln lc : Nat), i ≤ len ∧ iv = .int .i64 i ∧ lv = .slice lo ln lc ∧ Hid (JR B T wr jb b M 0 n R true) ∧ Hid (TR B T wr) ∧ Hid (RB T wr (.slice lo ln lc) R) ∧ Hid (NF M ∧ M.sz = z) ∧ Hid ((streamF R).length ≤ ar) ∧ Hid (Below B w wr)) (fun _ iv _ => len - (intOf iv).toNat)
  case atStart =>
    have b3 := bel_alloc w2 (.cells #[] 46)
    exact ⟨0, [], newF n z, (fun k => k < B), _, _, _, Nat.zero_le _, rfl, rfl, hid_of (J2.out.bel0 T2.out b3), hid_of (T2.out.same b3.size), hid_of (rb_nil _ _ _ _ (by omega)), S0, hid_of (by simp [streamF]), hid_of (B2.out.trans (b3.mono T2.out.hB))⟩
  case round =>
    obtain ⟨i, R, M, T, lo, ln, lc, hi, rfl, rfl, hJ, hT, hL, hN, hA, hb⟩ := hrel
    by_cases hlt : i < len
    · have d1 : decide (i < len) = true := decide_eq_true hlt
      have hlt' : (i : Int) < (len : Int) := by omega
      obtain ⟨g, o, x, xb, xn, xc, hx, rfl, hv, c0, c1, hok, hxn, hc1, hc2⟩ := (HIN.out wr hb.out).get hlt
      have HX := hid_of (List.mem_of_getElem? hx)
      have HOK := hid_of hok
      have HXR := hid_of (JX.t hok hv hT.out)
      have HXB := hid_of hok.2
      have HLT := hid_of hlt
      have HFX := hid_of (HFM.out x HX.out)
      have HCL := hid_of (fun (X : World) (hX : Below B w X) => show X.cell? ⟨g, o + i * 2, none⟩ = some (.bool x.rs) ∧ X.cell? ⟨g, o + i * 2 + 1, none⟩ = some (.slice xb xn xc) from by
        obtain ⟨g', o', x', xb', xn', xc', hx', e', hv', c0', c1', _⟩ := (HIN.out X hX).get hlt
        simp only [Option.some.injEq, Addr.mk.injEq] at e'
        obtain ⟨rfl, rfl, _⟩ := e'
        rw [hx] at hx'
        cases hx'
        rw [hv] at hv'
        cases hv'
        exact ⟨c0', c1'⟩)
      have xn9 : xn ≤ 9223372036854775807 := by have := (JX.t hok hv hT.out).len.2; omega
      obtain ⟨rs, hrs⟩ : ∃ rs, rs = x.rs := ⟨_, rfl⟩
      rw [← hrs] at c0 HCL
      obtain ⟨R2, hR2⟩ : ∃ R2, R2 = (nxtF R rs x.xs ar).1 := ⟨_, rfl⟩
      obtain ⟨cd, hcd⟩ : ∃ cd, cd = (nxtF R rs x.xs ar).2 := ⟨_, rfl⟩
      have HR2 := hid_of (show (streamF R2).length ≤ ar from by rw [hR2]; exact nxt_len R rs x.xs ar hA.out)
      have CA := hid_of (CAF.out T wr R x.xs rs lo ln lc xb xn xc hL.out HXR.out hT.out hA.out HFX.out)
      have CP := hid_of (fun (T : Nat → Prop) (X : World) (h : JR B T X jb b M 0 n R true) (t : TR B T X) (hX : RB T X (.slice xb xn xc) x.xs) => COP.out T X jb b M R x.xs rs xb xn xc h t hN.out hX HXB.out HFX.out)
      rw [← hR2, ← hcd] at CA CP
      obtain ⟨lf, hlf⟩ : ∃ lf, lf = leftF R2 ar := ⟨_, rfl⟩
      have CLF2 := hid_of (fun (T : Nat → Prop) (X : World) (M : DM) (h : JR B T X jb b M 0 n R2 true) (hn : NF M ∧ M.sz = z) => CLF.out T X jb b M R2 h hn)
      have CRL2 := hid_of (fun (T : Nat → Prop) (a1 : Option Addr) (n1 c1 : Nat) (X : World) (h : RB T X (.slice a1 n1 c1) R2) (t : TR B T X) => CRL.out T R2 a1 n1 c1 X h t HR2.out)
      rw [← hlf] at CLF2 CRL2
      clear hx hok hxn hrs hR2 hcd hlt hv hlf
      go_wp2_with (first
        | (go_at_call 16; ((with_reducible refine (CA.out).mono ?_); (rintro e w3 ⟨yo, yn, yc, rfl, q1, q2⟩)); have R3 := hid_of q1; have J3 := hid_of (hJ.out.bel q2); have T3 := hid_of (hT.out.next q2.size); have B3 := hid_of (hb.out.trans (q2.mono hT.out.hB)); have X3 := hid_of (HXR.out.tn q2); obtain ⟨k0, k1⟩ := HCL.out w3 B3.out; clear q1 q2)
        | (go_at_call 17; ((with_reducible refine (CP.out _ w3 J3.out T3.out X3.out).mono ?_); (rintro e w4 ⟨rfl, ⟨M4, q1, q2, q3, q4⟩⟩)); have J4 := hid_of q1; have N4 := hid_of q2; have B4 := hid_of (B3.out.trans q3); have T4 := hid_of (T3.out.same q4.1); have R4 := hid_of (R3.out.keep q4); clear q1 q2 q3 q4)
        | (go_at_call 19; ((with_reducible refine (CRC.out _ w4 jb b _ _ J4.out T4.out).mono ?_); (rintro e w5 ⟨zo, zn, zc, rfl, q1, q2⟩)); have Q5 := hid_of q1; have J5 := hid_of (J4.out.bel0 T4.out q2); have T5 := hid_of (T4.out.same q2.size); have B5 := hid_of (B4.out.trans (q2.mono T4.out.hB)); have R5 := hid_of (R4.out.bel q2); clear q1 q2)
        | (go_at_call 18; ((with_reducible refine (CSM.out _ _ R2 zo zn zc yo yn yc w5 Q5.out R5.out).mono ?_); (rintro e w6 ⟨rfl, q2⟩)); have J6 := hid_of (J5.out.bel0 T5.out q2); have T6 := hid_of (T5.out.same q2.size); have B6 := hid_of (B5.out.trans (q2.mono T5.out.hB)); have R6 := hid_of (R5.out.bel q2); clear q2)
        | (go_at_call 20; ((with_reducible refine (CLF2.out _ w6 M4 J6.out N4.out).mono ?_); (rintro e w7 ⟨rfl, q2⟩)); have J7 := hid_of (J6.out.bel0 T6.out q2); have T7 := hid_of (T6.out.same q2.size); have B7 := hid_of (B6.out.trans (q2.mono T6.out.hB)); have R7 := hid_of (R6.out.bel q2); clear q2)
        | (go_at_call 21; ((with_reducible refine (CRL2.out _ yo yn yc w7 R7.out T7.out).mono ?_); (rintro e w8 ⟨rfl, q2⟩)); have J8 := hid_of (J7.out.bel0 T7.out q2); have T8 := hid_of (T7.out.same q2.size); have B8 := hid_of (B7.out.trans (q2.mono T7.out.hB)); have R8 := hid_of (R7.out.bel q2); clear q2)
        | (go_at_call 22; ((with_reducible refine (CDN.out _ w8 jb b _ _ J8.out).mono ?_); (rintro e w9 ⟨rfl, rfl⟩))))
      go_roundw
      case rel => exact ⟨i + 1, R2, M4, _, _, _, _, HLT.out, by go_num, rfl, J8, T8, R8, N4, HR2, B8⟩
      case measure => have := HLT.out; simp [intOf]; omega
    · have d1 : decide (i < len) = false := decide_eq_false hlt
      go_wp2_with (first
        | (go_at_call 12; ((with_reducible refine (AW.out _).mono ?_); (rintro e w9 ⟨rfl, h1⟩)); (have E9 := hid_of (hb.out.trans (h1.mono hT.out.hB))); clear h1))
      go_ret
      exact ⟨rfl, E9.out⟩
end Go.Proofs.Ytofmijebinnejaa
