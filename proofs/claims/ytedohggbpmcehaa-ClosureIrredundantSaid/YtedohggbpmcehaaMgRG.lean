/- Texts in one: ClsREq, ClsEla, ClsRmm, ClsRpm, ClsRpv, ClsRed, ClsRed2, ClsRwo. -/
import Derived.Test.YtedohggbpmcehaaMgRF
import Derived.Deep.RegionHeldLaw
import Derived.Deep.RegionLaw
/- The reference's Equivalent. Bounds on sizes alone. -/
namespace Go.Proofs.Ytedohggbpmcehaa
open Go.RowKit

/-- Does a list of rules entail a rule. -/
noncomputable def entB (U : List Str) (rs : List Gr) (r : Gr) : Bool := decide (r.2 ∈ clF U rs r.1)
noncomputable def eqvB (U : List Str) (A B : List Gr) : Bool := A.all (entB U B) && B.all (entB U A)
theorem RuR.cel {w : World} {ro : Option Addr} {rn rc : Nat} {rs : List Gr} (h : RuR w (.slice ro rn rc) rs) {k : Nat} (hk : k < rn) : ∃ g o a c r, ro = some ⟨g, o, none⟩ ∧ rs[k]? = some r ∧ w.cell? ⟨g, o + k * 2, none⟩ = some (.slice a r.1.length c) ∧ w.cell? ⟨g, o + k * 2 + 1, none⟩ = some (.string (ba r.2)) ∧ Rd w (.slice a r.1.length c) (ss r.1) := by
  obtain ⟨hm, _⟩ := h.len
  obtain ⟨r, hr⟩ : ∃ r, rs[k]? = some r := ⟨_, List.getElem?_eq_getElem (by omega)⟩
  obtain ⟨g, o, a, c, e, c0, c1, rr⟩ := h.get hr
  exact ⟨g, o, a, c, r, e, hr, c0, c1, rr⟩
/-- One round of one of the loops, whatever world. -/
def EqR (w : World) (uo : Option Addr) (un uc : Nat) (ao : Option Addr) (an ac : Nat) (A : List Gr) (bo : Option Addr) (bn bc : Nat) (f : Gr → Bool) : Prop :=
  ∀ k wr, k < an → Below w.heap.size w wr → ∃ g o a c m bx r, ao = some ⟨g, o, none⟩ ∧ A[k]? = some r ∧ wr.cell? ⟨g, o + k * 2, none⟩ = some (.slice a m c) ∧ wr.cell? ⟨g, o + k * 2 + 1, none⟩ = some (.string bx) ∧
    Hid (Calls Try.prog 29 #[.slice uo un uc, .slice bo bn bc, .agg #[.slice a m c, .string bx]] wr fun e w' => e = .returned (.bool (f r)) ∧ Below w.heap.size w w')
theorem eqr_of {uo : Option Addr} {un uc : Nat} {U : List Str} {ao : Option Addr} {an ac : Nat} {A : List Gr} {bo : Option Addr} {bn bc : Nat} {B : List Gr} {w : World} (hU : Rd w (.slice uo un uc) (ss U)) (hun : un ≤ 1000000) (hA : RuR w (.slice ao an ac) A) (hB : RuR w (.slice bo bn bc) B) (hbn : bn ≤ 1000000) (hl : ∀ r ∈ A, r.1.length ≤ 1000000) :
    EqR w uo un uc ao an ac A bo bn bc (entB U B) := fun k wr hk hb => by
  obtain ⟨g, o, a, c, r, e, hr, c0, c1, rr⟩ := (hA.at hb).cel hk
  refine ⟨g, o, a, c, _, _, r, e, hr, c0, c1, hid_of ?_⟩
  exact (rent_any uo un uc U bo bn bc B a _ c r.1 r.2 wr (hU.at hb) hun (hB.at hb) hbn rr (hl r (List.mem_of_getElem? hr)) (entB U B r) rfl).mono fun e w' ⟨h1, h2⟩ => ⟨h1, hb.trans (h2.mono hb.size)⟩

set_option maxRecDepth 100000 in
set_option maxHeartbeats 1600000 in
theorem reqv_any (uo : Option Addr) (un uc : Nat) (U : List Str) (ao : Option Addr) (an ac : Nat) (A : List Gr) (bo : Option Addr) (bn bc : Nat) (B : List Gr) (w : World) (hU : Rd w (.slice uo un uc) (ss U)) (hun : un ≤ 1000000) (hA : RuR w (.slice ao an ac) A) (han : an ≤ 1000000) (hB : RuR w (.slice bo bn bc) B) (hbn : bn ≤ 1000000) (hla : ∀ r ∈ A, r.1.length ≤ 1000000) (hlb : ∀ r ∈ B, r.1.length ≤ 1000000) :
    Calls Try.prog 32 #[.slice uo un uc, .slice ao an ac, .slice bo bn bc] w fun e w' => e = .returned (.bool (eqvB U A B)) ∧ Below w.heap.size w w' := by
  have E1 := hid_of (eqr_of hU hun hA hB hbn hla)
  have E2 := hid_of (eqr_of hU hun hB hA han hlb)
  have HA := hid_of hA.len.1
  have HB := hid_of hB.len.1
  obtain ⟨q, hq⟩ : ∃ q, q = eqvB U A B := ⟨_, rfl⟩
  rw [← hq]
  have HQ : Hid (q = (A.all (entB U B) && B.all (entB U A))) := hid_of hq
  obtain ⟨f, hf⟩ : ∃ f, f = entB U B := ⟨_, rfl⟩
  obtain ⟨h, hh⟩ : ∃ h, h = entB U A := ⟨_, rfl⟩
  rw [← hf, ← hh] at HQ
  rw [← hf] at E1
  rw [← hh] at E2
  clear hU hA hB hq hla hlb hf hh
  go_enter Try.func32, Try.ntmps32
  go_wp2
  go_loopw [7] (fun iv wr => ∃ k : Nat, k ≤ an ∧ iv = .int .i64 k ∧ Hid ((A.take k).all f = true) ∧ Hid (Below w.heap.size w wr)) (fun iv _ => an - (intOf iv).toNat)
  case atStart => exact ⟨0, Nat.zero_le _, rfl, hid_of rfl, hid_of (Below.refl _ _)⟩
  case round =>
    obtain ⟨k, hk, rfl, hx, hb⟩ := hrel
    by_cases hlt : k < an
    · have hd : decide (k < an) = true := by simp; omega
      obtain ⟨g, o, a, c, m, bx, r, rfl, hr, c0, c1, HE⟩ := E1.out k wr hlt hb.out
      have HR := hid_of hr
      obtain ⟨fr, hfr⟩ : ∃ fr, fr = f r := ⟨_, rfl⟩
      rw [← hfr] at HE
      have HF := hid_of hfr
      clear hr hfr
      cases fr
      · have RF : Hid (q = false) := hid_of (by
          rw [HQ.out]
          have : A.all f = false := by
            rw [Bool.eq_false_iff]
            intro h1
            have := List.all_eq_true.1 h1 r (List.mem_of_getElem? HR.out)
            rw [← HF.out] at this
            cases this
          rw [this]; rfl)
        go_wp2_with (go_at_call 29; ((with_reducible refine (HE.out).mono ?_); (rintro ee w2 ⟨rfl, q1⟩)); have B2 := hid_of q1; clear q1)
        go_ret
        exact ⟨by rw [RF.out] <;> rfl, B2.out⟩
      · have HN : Hid ((A.take (k + 1)).all f = true) := hid_of (by rw [take_snoc_get HR.out, List.all_append, hx.out]; simp [HF.out.symm])
        go_wp2_with (go_at_call 29; ((with_reducible refine (HE.out).mono ?_); (rintro ee w2 ⟨rfl, q1⟩)); have B2 := hid_of q1; clear q1)
        go_roundw
        case rel => exact ⟨k + 1, by omega, by go_num, HN, B2⟩
        case measure => simp [intOf]; omega
    · have hd : decide (k < an) = false := by simp; omega
      have HAL : Hid (A.all f = true) := hid_of (by
        have h1 := hx.out
        rw [List.take_of_length_le (by have := HA.out; omega)] at h1
        exact h1)
      go_wp2
      go_loopw [8] (fun iv wq => ∃ k : Nat, k ≤ bn ∧ iv = .int .i64 k ∧ Hid ((B.take k).all h = true) ∧ Hid (Below w.heap.size w wq)) (fun iv _ => bn - (intOf iv).toNat)
      case atStart => exact ⟨0, Nat.zero_le _, rfl, hid_of rfl, hb⟩
      case round =>
        obtain ⟨j, hj, rfl, hy, hbq⟩ := hrel
        by_cases hlt2 : j < bn
        · have hd2 : decide (j < bn) = true := by simp; omega
          obtain ⟨g, o, a, c, m, bx, r, rfl, hr, c0, c1, HE⟩ := E2.out j _ hlt2 hbq.out
          have HR := hid_of hr
          obtain ⟨fr, hfr⟩ : ∃ fr, fr = h r := ⟨_, rfl⟩
          rw [← hfr] at HE
          have HF := hid_of hfr
          clear hr hfr
          cases fr
          · have RF : Hid (q = false) := hid_of (by
              rw [HQ.out]
              have : B.all h = false := by
                rw [Bool.eq_false_iff]
                intro h1
                have := List.all_eq_true.1 h1 r (List.mem_of_getElem? HR.out)
                rw [← HF.out] at this
                cases this
              rw [this, Bool.and_false])
            go_wp2_with (go_at_call 29; ((with_reducible refine (HE.out).mono ?_); (rintro ee w2 ⟨rfl, q1⟩)); have B2 := hid_of q1; clear q1)
            go_ret
            exact ⟨by rw [RF.out] <;> rfl, B2.out⟩
          · have HN : Hid ((B.take (j + 1)).all h = true) := hid_of (by rw [take_snoc_get HR.out, List.all_append, hy.out]; simp [HF.out.symm])
            go_wp2_with (go_at_call 29; ((with_reducible refine (HE.out).mono ?_); (rintro ee w2 ⟨rfl, q1⟩)); have B2 := hid_of q1; clear q1)
            go_roundw
            case rel => exact ⟨j + 1, by omega, by go_num, HN, B2⟩
            case measure => simp [intOf]; omega
        · have hd2 : decide (j < bn) = false := by simp; omega
          have RF : Hid (q = true) := hid_of (by
            rw [HQ.out, HAL.out]
            have h1 := hy.out
            rw [List.take_of_length_le (by have := HB.out; omega)] at h1
            rw [h1]; rfl)
          go_wp2
          go_ret
          exact ⟨by rw [RF.out] <;> rfl, hbq.out⟩
end Go.Proofs.Ytedohggbpmcehaa

/- The identity of a rule; entailAll: do rules entail each rule of a list; Equivalent. Bounds on sizes alone. -/
namespace Go.Proofs.Ytedohggbpmcehaa
open Go.RowKit
set_option maxRecDepth 100000
set_option maxHeartbeats 1600000

theorem infoIdy : (Try.prog.info? 106).map (·.size) = some 2 := by kernel_rfl
/-- The contract of strings.Join, for names of at most 16 bytes. -/
def JoinC : Prop := ∀ (xo : Option Addr) (n xc : Nat) (l : List Str) (w : World), Rd w (.slice xo n xc) (ss l) → (∀ x ∈ l, x.length ≤ 16) → l.length ≤ 10000 →
    Calls Try.prog 88 #[.slice xo n xc, .string ⟨#[44]⟩] w fun e w' => e = .returned (.string (ba (jn l))) ∧ Below w.heap.size w w'

theorem idy_any (JC : JoinC) (po : Option Addr) (pn pc : Nat) (p : List Str) (x : Str) (w : World) (hp : Rd w (.slice po pn pc) (ss p)) (h1 : ∀ y ∈ p, y.length ≤ 16) (h2 : p.length ≤ 10000) :
    Calls Try.prog 73 #[.agg #[.slice po pn pc, .string (ba x)]] w fun e w' => e = .returned (Ky.v (jn p, x)) ∧ Below w.heap.size w w' := by
  obtain ⟨bx, hbx⟩ : ∃ bx, bx = ba x := ⟨_, rfl⟩
  rw [← hbx]
  obtain ⟨W, hW⟩ : ∃ W, W = ((w.alloc (.cells #[.slice po pn pc, .string bx] 41)).alloc (.cells #[.string { data := #[] }, .string { data := #[] }] 106)).drew := ⟨_, rfl⟩
  have z1 : (w.alloc (.cells #[.slice po pn pc, .string bx] 41)).heap.size = w.heap.size + 1 := by simp
  have b1 : W.heap[w.heap.size]? = some (.cells #[.slice po pn pc, .string bx] 41 (0, 0)) := by
    rw [hW]
    have e := (bel_alloc (w.alloc (.cells #[.slice po pn pc, .string bx] 41)) (.cells #[.string { data := #[] }, .string { data := #[] }] 106)).block w.heap.size (by rw [z1]; omega)
    exact e.trans (heap_alloc_new w _)
  have b2 : W.heap[w.heap.size + 1]? = some (.cells #[.string { data := #[] }, .string { data := #[] }] 106 (0, 0)) := by
    rw [hW]
    have e := heap_alloc_new (w.alloc (.cells #[.slice po pn pc, .string bx] 41)) (.cells #[.string { data := #[] }, .string { data := #[] }] 106)
    rw [z1] at e
    exact e
  have B : Below w.heap.size w W := by
    rw [hW]
    exact ((bel_alloc w _).alloc (by rw [z1]; omega) _).drew
  have zW : W.heap.size = w.heap.size + 2 := by rw [hW]; simp
  have CB : Hid (∀ X, Below (w.heap.size + 1) W X → X.cell? ⟨w.heap.size, 0, none⟩ = some (.slice po pn pc) ∧ X.cell? ⟨w.heap.size, 1, none⟩ = some (.string bx)) := hid_of (fun X hb => by
    have e := (hb.block _ (by omega)).trans b1
    exact ⟨blk_cell (cs := [.slice po pn pc, .string bx]) e (j := 0) rfl, blk_cell (cs := [.slice po pn pc, .string bx]) e (j := 1) rfl⟩)
  obtain ⟨bj, hbj⟩ : ∃ bj, bj = ba (jn p) := ⟨_, rfl⟩
  have HC : Hid (Calls Try.prog 88 #[.slice po pn pc, .string ⟨#[44]⟩] W fun e w1 => e = .returned (.string bj) ∧ w.heap.size + 1 < w1.heap.size ∧ Below (w.heap.size + 1) W w1 ∧ w1.cell? ⟨w.heap.size + 1, 0, none⟩ = some (.string { data := #[] }) ∧ w1.cell? ⟨w.heap.size + 1, 1, none⟩ = some (.string { data := #[] }) ∧ (w1.frozen? ⟨w.heap.size + 1, 0, none⟩ = false ∧ w1.frozen? ⟨w.heap.size + 1, 1, none⟩ = false) ∧
      Hid (Below (w.heap.size + 1) W ((w1.setCell ⟨w.heap.size + 1, 0, none⟩ (.string bj)).setCell ⟨w.heap.size + 1, 1, none⟩ (.string bx)) ∧ ((w1.setCell ⟨w.heap.size + 1, 0, none⟩ (.string bj)).setCell ⟨w.heap.size + 1, 1, none⟩ (.string bx)).heap[w.heap.size + 1]? = some (.cells #[.string bj, .string bx] 106 (0, 0)))) := hid_of ((JC po pn pc p W (hp.at B) h1 h2).mono (by
    rintro e w1 ⟨rfl, hb⟩
    have e1 : w1.heap[w.heap.size + 1]? = some (.cells [Value.string { data := #[] }, .string { data := #[] }].toArray 106 (0, 0)) := (hb.block _ (by omega)).trans b2
    have hb' : Below (w.heap.size + 1) W w1 := hb.mono (by omega)
    refine ⟨by rw [hbj], by have := hb.size; omega, hb', blk_cell (cs := [.string { data := #[] }, .string { data := #[] }]) e1 (j := 0) rfl, blk_cell (cs := [.string { data := #[] }, .string { data := #[] }]) e1 (j := 1) rfl, ⟨by simp [World.frozen?, e1], by simp [World.frozen?, e1]⟩, hid_of ⟨⟨hb'.os, hb'.tape, hb'.output, by simpa using hb'.size, fun k hk => ?_⟩, blk_setCell (k := 1) (u := .string bx) (blk_setCell (k := 0) (u := .string bj) e1)⟩⟩
    exact (Below.heap_setCell _ _ _ _ (by show k ≠ w.heap.size + 1; omega)).trans ((Below.heap_setCell _ _ _ _ (by show k ≠ w.heap.size + 1; omega)).trans (hb'.block k hk))))
  clear b1 b2 z1 zW
  have K0 : Hid (W.cell? ⟨w.heap.size, 0, none⟩ = some (.slice po pn pc) ∧ W.cell? ⟨w.heap.size, 1, none⟩ = some (.string bx)) := hid_of (CB.out W (Below.refl _ _))
  rw [hW] at K0 HC CB
  have HV : Hid (Ky.v (jn p, x) = .agg #[.string bj, .string bx]) := hid_of (by rw [hbj, hbx]; rfl)
  have HBB := hid_of B
  rw [hW] at HBB
  clear B JC hp h1 h2 hbx hbj hW
  go_enter Try.func73, Try.ntmps73
  go_wp2
  go_region_held3 (fun X => X.cell? ⟨w.heap.size, 0, none⟩ = some (.slice po pn pc) ∧ X.cell? ⟨w.heap.size, 1, none⟩ = some (.string bx)) (first | with_reducible exact K0.out | with_reducible exact K1.out | with_reducible exact K2.out) (first
    | (go_at_call 88; ((with_reducible refine (HC.out).mono ?_); (rintro ee w1 ⟨rfl, hs, q1, k0, k1, ⟨f0, f1⟩, q2⟩; have B1 := hid_of q1; have K1 := hid_of (CB.out w1 q1); have K2 := hid_of (CB.out _ q2.out.1); have R2 := q2; clear q1 q2))))
  go_wp2
  refine bodyPost_ret (results_cell_row rfl _ _ (w.heap.size + 1) 106 #[.string bj, .string bx] (0, 0) _ rfl R2.out.2 Try.underlying106 rfl infoIdy) rfl ⟨by rw [HV.out], ?_⟩
  exact HBB.out.trans (R2.out.1.mono (by omega))

def idK (r : Gr) : Ky := (jn r.1, r.2)
theorem nm_ok {U : List Str} {rs : List Gr} (h : chkE U rs = 0) : ∀ x ∈ U, Wd x ∧ x.length ≤ 16 := fun x hx => by
  unfold chkE at h
  by_cases h1 : U.all nameB = false
  · rw [if_pos h1] at h; omega
  · have h2 : U.all nameB = true := by simpa using h1
    exact wd_of_name (List.all_eq_true.1 h2 x hx)
theorem idK_ok {U : List Str} {rs : List Gr} (h : chkE U rs = 0) (hl : ∀ r ∈ rs, r.1.length ≤ 10000) {r : Gr} (hr : r ∈ rs) : (idK r).ok := by
  have h1 := nm_ok h
  obtain ⟨_, h2, h3⟩ := (chk_ok h).2 r hr
  have h4 := jn_len (m := 16) r.1 fun x hx => (h1 x (h2 x hx)).2
  have h5 := hl r hr
  have h6 := (h1 r.2 h3).2
  exact ⟨by show (jn r.1).length ≤ _; omega, by show r.2.length ≤ _; omega⟩
theorem idK_inj {U : List Str} {rs qs : List Gr} (h : chkE U rs = 0) (h' : chkE U qs = 0) {r q : Gr} (hr : r ∈ rs) (hq : q ∈ qs) (e : idK r = idK q) : r = q := by
  have h1 := nm_ok h
  have e1 : jn r.1 = jn q.1 := congrArg (fun p : Ky => p.1) e
  have e2 : r.2 = q.2 := congrArg (fun p : Ky => p.2) e
  exact Prod.ext (jn_inj (fun x hx => (h1 x (((chk_ok h).2 r hr).2.1 x hx)).1) (fun x hx => (h1 x (((chk_ok h').2 q hq).2.1 x hx)).1) e1) e2
/-- What a round reads and its identity. -/
def IdR (w : World) (ao : Option Addr) (an : Nat) (A : List Gr) : Prop :=
  ∀ k wr, k < an → Below w.heap.size w wr → ∃ g o a c m bx r kv, ao = some ⟨g, o, none⟩ ∧ A[k]? = some r ∧ wr.cell? ⟨g, o + k * 2, none⟩ = some (.slice a m c) ∧ wr.cell? ⟨g, o + k * 2 + 1, none⟩ = some (.string bx) ∧ kv = (idK r).v ∧ (idK r).ok ∧ (Rd w (.slice a m c) (ss r.1) ∧ bx = ba r.2) ∧
    Hid (Calls Try.prog 73 #[.agg #[.slice a m c, .string bx]] (wr.alloc (.cells #[.slice a m c, .string bx] 41)) fun e w' => e = .returned kv ∧ Below wr.heap.size wr w' ∧ wr.heap.size < w'.heap.size ∧ w'.cell? ⟨wr.heap.size, 0, none⟩ = some (.slice a m c) ∧ w'.cell? ⟨wr.heap.size, 1, none⟩ = some (.string bx))
theorem idr_of (JC : JoinC) {ao : Option Addr} {an ac : Nat} {A : List Gr} {U : List Str} {w : World} (hA : RuR w (.slice ao an ac) A) (h : chkE U A = 0) (hl : ∀ r ∈ A, r.1.length ≤ 10000) : IdR w ao an A := fun k wr hk hb => by
  obtain ⟨g, o, a, c, r, e, hr, _, _, rr⟩ := hA.cel hk
  obtain ⟨g', o', a', c', r', e', hr', c0, c1, rr'⟩ := (hA.at hb).cel hk
  have er : r' = r := by rw [hr] at hr'; cases hr'; rfl
  subst er
  obtain ⟨g2, o2, a2, c2, e2, d0, d1, rr2⟩ := hA.get hr
  rw [e'] at e2
  cases e2
  have f0 := (hb.cell (p := ⟨g', o' + k * 2, none⟩) (World.block_lt_of_cell? _ _ d0)).trans d0
  rw [c0] at f0
  simp only [Option.some.injEq, Value.slice.injEq] at f0
  obtain ⟨rfl, _, rfl⟩ := f0
  have hm := List.mem_of_getElem? hr
  have h1 := nm_ok h
  have B1 := bel_alloc wr (.cells #[.slice a' r'.1.length c', .string (ba r'.2)] 41)
  refine ⟨g', o', a', c', _, _, r', _, e', hr, c0, c1, rfl, idK_ok h hl hm, ⟨rr2, rfl⟩, hid_of ?_⟩
  refine (idy_any JC a' _ c' r'.1 r'.2 _ (rr'.at B1) (fun y hy => (h1 y (((chk_ok h).2 r' hm).2.1 y hy)).2) (hl r' hm)).mono ?_
  rintro e w' ⟨rfl, hb2⟩
  have e0 := heap_alloc_new wr (.cells #[.slice a' r'.1.length c', .string (ba r'.2)] 41)
  have e1 := (hb2.block wr.heap.size (by simp)).trans e0
  exact ⟨rfl, B1.trans (hb2.mono B1.size), by have := hb2.size; simp at this; omega, blk_cell (cs := [.slice a' r'.1.length c', .string (ba r'.2)]) e1 (j := 0) rfl, blk_cell (cs := [.slice a' r'.1.length c', .string (ba r'.2)]) e1 (j := 1) rfl⟩
theorem bel_by {w wr w2 : World} {b : Nat} (h : Below w.heap.size w wr) (hg : wr.grownBy w2 (some b)) (hb : w.heap.size ≤ b) : Below w.heap.size w w2 :=
  h.grown hg h.size (fun k hk => by cases hk; exact hb)

theorem ruE2 : Elem2 Try.prog 23 41 (.agg #[.slice none 0 0, .string ⟨#[]⟩]) 40 := ⟨Try.underlying23, by kernel_rfl, rfl⟩
theorem rus_all {U : List Str} : ∀ {rs : List Gr}, rusE U rs = 0 → ∀ r ∈ rs, ruE U r = 0
  | [], _, r, hr => by cases hr
  | a :: rs, h, r, hr => by
    rw [rusE] at h
    by_cases e : ruE U a = 0
    · rw [if_pos e] at h
      rcases List.mem_cons.1 hr with rfl | hr
      · exact e
      · exact rus_all h r hr
    · rw [if_neg e] at h; exact absurd h e
theorem chk_sub {U : List Str} {rs qs : List Gr} (h : chkE U rs = 0) (hs : ∀ r ∈ qs, r ∈ rs) : chkE U qs = 0 := by
  unfold chkE at h ⊢
  by_cases h1 : U.all nameB = false
  · rw [if_pos h1] at h; omega
  · rw [if_neg h1] at h ⊢
    by_cases h2 : ¬ SS U
    · rw [if_pos h2] at h; omega
    · rw [if_neg h2] at h ⊢
      exact rusE_zero fun r hr => rus_all h r (hs r hr)
/-- The rules that are not yet known. -/
def flK (rs B : List Gr) : List Gr := B.filter fun r => decide (idK r ∉ rs.map idK)
theorem flK_next {rs B : List Gr} {j : Nat} {r : Gr} (h : B[j]? = some r) : flK rs (B.take (j + 1)) = flK rs (B.take j) ++ (if idK r ∈ rs.map idK then [] else [r]) := by
  unfold flK
  rw [take_snoc_get h, List.filter_append]
  by_cases e : idK r ∈ rs.map idK <;> simp [e]
theorem flK_mem {rs B : List Gr} {r : Gr} (h : r ∈ flK rs B) : r ∈ B := (List.mem_filter.1 h).1
theorem entB_iff {U : List Str} {rs : List Gr} (h0 : chkE U rs = 0) {r : Gr} (hr : ruE U r = 0) : entB U rs r = true ↔ DerS rs (fun x => x ∈ r.1) r.2 := by
  have hpu : SS r.1 ∧ ∀ y ∈ r.1, y ∈ U := by
    by_cases h1 : SS r.1
    · by_cases h2 : ∀ y ∈ r.1, y ∈ U
      · exact ⟨h1, h2⟩
      · rw [ruE, if_neg (not_not_intro h1), if_pos h2] at hr; omega
    · rw [ruE, if_pos h1] at hr; omega
  unfold entB
  rw [decide_eq_true_iff, mem_clF (cws_mk h0 hpu.1 hpu.2)]
theorem flK_all {U : List Str} {rs B : List Gr} (h0 : chkE U rs = 0) (h1 : chkE U B = 0) : (flK rs B).all (entB U rs) = B.all (entB U rs) := by
  have hru : ∀ r ∈ B, ruE U r = 0 := by
    unfold chkE at h1
    split at h1
    · omega
    · split at h1
      · omega
      · exact rus_all h1
  rw [Bool.eq_iff_iff, List.all_eq_true, List.all_eq_true]
  refine ⟨fun h r hr => ?_, fun h r hr => h r (flK_mem hr)⟩
  by_cases e : idK r ∈ rs.map idK
  · obtain ⟨q, hq, e2⟩ := List.mem_map.1 e
    have : q = r := idK_inj h0 h1 hq hr e2
    subst this
    exact (entB_iff h0 (hru q hr)).2 (.rule hq fun y hy => .base hy)
  · exact h r (List.mem_filter.2 ⟨hr, by simp [e]⟩)
/-- The rows of the rules that are left. -/
structure OthP (w : World) (lo : List PV) (L : List Gr) : Prop where
  len : lo.length = L.length
  at_ : ∀ (i : Nat) (t : PV) (r : Gr), lo[i]? = some t → L[i]? = some r → Rd w t.1 (ss r.1) ∧ t.2 = .string (ba r.2)
theorem OthP.snoc {w : World} {lo : List PV} {L : List Gr} (h : OthP w lo L) {t : PV} {r : Gr} (h1 : Rd w t.1 (ss r.1)) (h2 : t.2 = .string (ba r.2)) : OthP w (lo ++ [t]) (L ++ [r]) := by
  refine ⟨by simp [h.len], fun i t' r' ht hr => ?_⟩
  by_cases e : i < lo.length
  · rw [List.getElem?_append_left e] at ht
    rw [List.getElem?_append_left (by rw [← h.len]; exact e)] at hr
    exact h.at_ i t' r' ht hr
  · rw [List.getElem?_append_right (by omega)] at ht
    rw [List.getElem?_append_right (by rw [← h.len]; omega)] at hr
    have hi : i = lo.length := by have := (List.getElem?_eq_some_iff.1 ht).1; simp at this; omega
    rw [hi, Nat.sub_self] at ht
    rw [hi, h.len, Nat.sub_self] at hr
    simp only [List.getElem?_cons_zero, Option.some.injEq] at ht hr
    rw [← ht, ← hr]; exact ⟨h1, h2⟩
theorem OthP.ru {w w' : World} {lo : List PV} {L : List Gr} (h : OthP w lo L) {v : Value} (hp : PRd w' v lo) (hb : Below w.heap.size w w') : RuR w' v L :=
  ⟨lo, hp, h.len, fun i t r ht hr => ⟨(h.at_ i t r ht hr).1.at hb, (h.at_ i t r ht hr).2⟩⟩
/-- The chase in the last loop. -/
def E3 (c un : Nat) (R : List Hrl) (w6 wz : World) : Prop := ∃ (T : List Nat) (kk : Nat) (V : CV) (S : Nat → Prop), CH wz c un R (lackR R off0 (T.take kk)) (memB T) T kk V S ∧ kk ≤ T.length ∧ Below w6.heap.size w6 wz ∧ ∀ b, S b → w6.heap.size ≤ b
theorem e3_round {U : List Str} {rs L : List Gr} {R1 R2 : List Hrl} {c un n : Nat} {ao2 : Option Addr} {cap2 B0 : Nat} {w6 wz : World} (h0 : chkE U rs = 0) (hc1 : Cmp U rs R1) (hL : chkE U L = 0) (hc2 : Cmp U L R2) (hco : CoR B0 w6 (.slice ao2 n cap2) R2) (hun : un ≤ 1000000) (hul : un = U.length) (he : E3 c un R1 w6 wz) {k : Nat} (hk : k < n) :
    ∃ g o a1 n1 d1 a2 n2 d2 r, ao2 = some ⟨g, o, none⟩ ∧ L[k]? = some r ∧ wz.cell? ⟨g, o + k * 2, none⟩ = some (.slice a1 n1 d1) ∧ wz.cell? ⟨g, o + k * 2 + 1, none⟩ = some (.slice a2 n2 d2) ∧
      Hid (Calls Try.prog 52 #[.pointer (some ⟨c, 0, none⟩), .agg #[.slice a1 n1 d1, .slice a2 n2 d2]] (wz.alloc (.cells #[.slice a1 n1 d1, .slice a2 n2 d2] 90)) fun e w' => e = .returned (.bool (entB U rs r)) ∧ E3 c un R1 w6 w') := by
  obtain ⟨T, kk, V, S, q1, q2, q3, q4⟩ := he
  obtain ⟨l, p1, p2⟩ := hco
  have hcut := p1.cut
  have hlR := p2.1
  have hRL := hc2.len
  obtain ⟨t, ht⟩ : ∃ t, l[k]? = some t := ⟨_, List.getElem?_eq_getElem (by omega)⟩
  obtain ⟨z, hz⟩ : ∃ z, R2[k]? = some z := ⟨_, List.getElem?_eq_getElem (by omega)⟩
  obtain ⟨r, hr⟩ : ∃ r, L[k]? = some r := ⟨_, List.getElem?_eq_getElem (by omega)⟩
  obtain ⟨g, o, e, c0, c1⟩ := (p1.at q3).get ht
  obtain ⟨o1, o2⟩ := p2.2 k t z ht hz
  obtain ⟨i1, i2⟩ := hc2.at_ k r z hr hz
  obtain ⟨t1, t2⟩ := t
  obtain ⟨a1, d1, rfl⟩ : ∃ a d, t1 = .slice a z.1.length d := own_shape o1
  obtain ⟨a2, d2, rfl⟩ : ∃ a d, t2 = .slice a z.2.length d := own_shape o2
  have B := bel_alloc wz (.cells #[.slice a1 z.1.length d1, .slice a2 z.2.length d2] 90)
  have bb := q3.trans (B.mono q3.size)
  have o1' := own_same o1 fun k hk => bb.block k (own_lt o1 hk)
  have o2' := own_same o2 fun k hk => bb.block k (own_lt o2 hk)
  refine ⟨g, o, a1, _, d1, a2, _, d2, r, e, hr, c0, c1, hid_of ?_⟩
  refine (ent_any c un kk R1 off0 T V S z.1 z.2 (.slice a1 z.1.length d1) (.slice a2 z.2.length d2) _ (q1.at B) q2 (own_rd o1') (own_rd o2') (fun g hg => ⟨own_lt o1' hg, fun hs => by have := own_lt o1 hg; have := q4 g hs; omega⟩) (fun g hg => ⟨own_lt o2' hg, fun hs => by have := own_lt o2 hg; have := q4 g hs; omega⟩)
    (fun y hy => by rw [hul]; exact i1.lt hy) (fun y hy => by rw [hul]; exact i2.lt hy) hun (fun _ => by unfold off0; omega)).mono ?_
  rintro e w4 ⟨b, T', tv, S', rfl, hb2, hch, hcg⟩
  have hru : ruE U r = 0 := by
    unfold chkE at hL
    split at hL
    · omega
    · split at hL
      · omega
      · exact rus_all hL r (List.mem_of_getElem? hr)
  obtain ⟨hU, hok⟩ := chk_ok h0
  have hbe : b = entB U rs r := by
    rw [Bool.eq_iff_iff, entB_iff h0 hru, hb2]
    constructor
    · intro hall
      obtain ⟨i, hi1, hi2⟩ := i2.mem_back (x := r.2) (by simp)
      exact der_toS hc1 i1 (hall i hi1) r.2 hi2
    · intro hd y hy
      obtain ⟨i, k1, k2⟩ := derS_to hU hc1 i1 (fun r hr => ⟨(hok r hr).2.1, (hok r hr).2.2⟩) hd
      obtain ⟨x', k3, k4⟩ := i2.mem hy
      rw [List.mem_singleton.1 k3] at k4
      rw [ss_inj hU k4 k1]; exact k2
  refine ⟨by rw [hbe], T', T'.length, _, S', hch, Nat.le_refl _, bb.trans (hcg.below bb.size q4), fun k hk => ?_⟩
  rcases hcg.sub k hk with h1 | h1
  · exact q4 k h1
  · exact Nat.le_trans bb.size h1

theorem ela_any (JC : JoinC) (uo : Option Addr) (un uc : Nat) (U : List Str) (ro : Option Addr) (rn rc : Nat) (rs : List Gr) (bo : Option Addr) (bn bc : Nat) (B : List Gr) (w : World) (h : InU w uo un uc U ro rn rc rs) (h' : InU w uo un uc U bo bn bc B) (hl : ∀ r ∈ rs, r.1.length ≤ 10000) (hl' : ∀ r ∈ B, r.1.length ≤ 10000) (h0 : chkE U rs = 0) (h1 : chkE U B = 0) (q : Bool) (hq : q = B.all (entB U rs)) :
    Calls Try.prog 56 #[.slice uo un uc, .slice ro rn rc, .slice bo bn bc] w fun e w' => e = .returned (.bool q) ∧ Below w.heap.size w w' := by
  have I1 := hid_of (idr_of JC h.rr h0 hl)
  have I2 := hid_of (idr_of JC h'.rr h1 hl')
  have hrn := h.rn
  have hbn := h'.rn
  have hun := h.un
  have hr9 := (RuR.len h.rr).2
  have hb9 := (RuR.len h'.rr).2
  have HA := hid_of (RuR.len h.rr).1
  have HB := hid_of (RuR.len h'.rr).1
  have HQ := hid_of hq
  have HI := hid_of h
  have HI' := hid_of h'
  have H0 := hid_of h0
  have H1 := hid_of h1
  have HL' := hid_of hl'
  clear h h' hl hl' h0 h1 hq JC
  have hmm := @run_makeMap Try.prog
  go_enter Try.func56, Try.ntmps56
  go_wp2
  clear hmm
  go_loopw [9, 23] (fun bv iv wr => ∃ (k : Nat) (v : Value), bv = v ∧ k ≤ rn ∧ iv = .int .i64 k ∧ Hid (Below w.heap.size w wr) ∧ Hid (MapI wr w.heap.size k ((rs.take k).map idK))) (fun _ iv _ => rn - (intOf iv).toNat)
  case atStart => exact ⟨0, _, rfl, Nat.zero_le _, rfl, hid_of (bel_alloc w _), hid_of (mapI_made w)⟩
  case round =>
    obtain ⟨k, v, rfl, hk, rfl, hb, hmp⟩ := hrel
    by_cases hlt : k < rn
    · have hd : decide (k < rn) = true := by simp; omega
      obtain ⟨g, o, a, c, m, bx, r, kv, rfl, hr, c0, c1, hkv, hok, -, HE⟩ := I1.out k wr hlt hb.out
      have HR := hid_of hr
      have HKV := hid_of hkv
      have HOK := hid_of hok
      clear hr hkv hok
      have hk9 : k ≤ 1000000 := by omega
      go_wp2_with (first
        | (go_at_call 73; ((with_reducible refine (HE.out).mono ?_); (rintro ee w2 ⟨rfl, q1, q2, q3, q4⟩)); have B2 := hid_of q1; have BW2 := hid_of (hb.out.trans (q1.mono hb.out.size)); have M2 := hid_of (hmp.out.same (q1.block _ hmp.out.lt)); clear q1)
        | (at_mapUpdate; ((refine wpList_putI rfl _ _ _ rfl w.heap.size k ((rs.take k).map idK) (idK r) rfl (by rw [← HKV.out]; rfl) rfl M2.out hk9 HOK.out ?_); intro w3 hm3 hg3; have M3 := hid_of hm3; have B3 := hid_of (bel_by BW2.out hg3 (Nat.le_refl _)); clear hm3 hg3)))
      go_roundw
      case rel => exact ⟨k + 1, _, rfl, by omega, by go_num, B3, hid_of (by rw [take_snoc_get HR.out, List.map_append]; exact M3.out)⟩
      case measure => simp [intOf]; omega
    · have hd : decide (k < rn) = false := by simp; omega
      have hkr : k = rn := by omega
      have HMF : Hid (MapI wr w.heap.size rn (rs.map idK)) := hid_of (by
        have h5 := hmp.out
        rw [List.take_of_length_le (by have := HA.out; omega), hkr] at h5
        exact h5)
      have hn9 : (0 : Nat) ≤ 1000000 := by omega
      clear hkr hmp
      go_wp2
      generalize wr = w5 at *
      go_loopw [10, 12, 33] (fun ov bv iv wq => ∃ (j : Nat) (oo : Option Addr) (n oc : Nat) (v : Value) (lo : List PV), ov = .slice oo n oc ∧ bv = v ∧ n ≤ j ∧ j ≤ bn ∧ iv = .int .i64 j ∧ Hid (lo.length = n) ∧ Hid (OP 41 w5.heap.size w5 wq (.slice oo n oc) lo) ∧ Hid (OthP w lo (flK rs (B.take j)))) (fun _ _ iv _ => bn - (intOf iv).toNat)
      case atStart => exact ⟨0, _, 0, 0, _, [], rfl, rfl, Nat.le_refl _, Nat.zero_le _, rfl, hid_of rfl, hid_of (op_nil _ _), hid_of ⟨rfl, fun i t r ht => (by simp at ht)⟩⟩
      case round =>
        obtain ⟨j, oo, n, oc, v2, lo, rfl, rfl, hnj, hj, rfl, hll, how, hot⟩ := hrel
        have BWQ : Hid (Below w.heap.size w _) := hid_of (hb.out.trans (how.out.bel.mono hb.out.size))
        by_cases hlt2 : j < bn
        · have hd2 : decide (j < bn) = true := by simp; omega
          obtain ⟨g, o, a, c, m, bx, r, kv, rfl, hr, c0, c1, hkv, hok, hrd, HE⟩ := I2.out j _ hlt2 BWQ.out
          have HR := hid_of hr
          have HKV := hid_of hkv
          have HRD := hid_of hrd
          obtain ⟨b, hb2⟩ : ∃ b, b = decide (idK r ∈ rs.map idK) := ⟨_, rfl⟩
          have HBB := hid_of hb2
          have LK : Hid (∀ W, Below w5.heap.size w5 W → (Instr.lookup 104 (.map (some w.heap.size)) kv false).run Try.prog W = .ok (.bool b) W) := hid_of (fun W hw => by
            rw [hkv, hb2]
            exact (HMF.out.same (hw.block _ HMF.out.lt)).look (idK r) hok)
          clear hr hkv hok hrd hb2
          cases b
          · have HNX : Hid (flK rs (B.take (j + 1)) = flK rs (B.take j) ++ [r]) := hid_of (by rw [flK_next HR.out, if_neg (of_decide_eq_false HBB.out.symm)])
            go_wp2_with (first
              | (go_at_call 73; ((with_reducible refine (HE.out).mono ?_); (rintro ee w2 ⟨rfl, q1, q2, q3, q4⟩)); have B2 := hid_of q1; have O2 := hid_of (how.out.later q1); have lk := LK.out w2 O2.out.bel; clear q1)
              | (at_builtin; (refine wpList_pr ruE2 rfl (.tmp 42) (.tmp 44) rfl (v := .slice oo n oc) (l := lo) rfl (O2.out.later (bel_alloc _ _)) (vx := .slice (some ⟨w2.heap.size, 0, none⟩) 1 1) (m := [(.slice a m c, .string bx)]) rfl prd_new (by intro u hu; simp [prs] at hu; rcases hu with rfl | rfl <;> rfl) (by rw [hll.out]; simp only [List.length_singleton]; omega) (by rw [hll.out]; simp only [List.length_singleton]; omega) ?_); intro ao2 n2 cap2 w4 e1 h5 _; have HN2 : Hid (n2 = n + 1) := hid_of (by rw [hll.out] at e1; simpa using e1); have HO2 := hid_of h5; clear e1 h5))
            go_roundw
            case rel => exact ⟨j + 1, ao2, n2, cap2, _, lo ++ [(.slice a m c, .string bx)], rfl, rfl, by have := HN2.out; omega, by omega, by go_num, hid_of (by rw [List.length_append, hll.out, HN2.out]; rfl), HO2, hid_of (by rw [HNX.out]; exact hot.out.snoc HRD.out.1 (by rw [HRD.out.2]))⟩
            case measure => simp [intOf]; omega
          · have HNX : Hid (flK rs (B.take (j + 1)) = flK rs (B.take j)) := hid_of (by rw [flK_next HR.out, if_pos (of_decide_eq_true HBB.out.symm), List.append_nil])
            go_wp2_with (go_at_call 73; ((with_reducible refine (HE.out).mono ?_); (rintro ee w2 ⟨rfl, q1, q2, q3, q4⟩)); have B2 := hid_of q1; have O2 := hid_of (how.out.later q1); have lk := LK.out w2 O2.out.bel; clear q1)
            go_roundw
            case rel => exact ⟨j + 1, oo, n, oc, _, lo, rfl, rfl, by omega, by omega, by go_num, hll, O2, hid_of (by rw [HNX.out]; exact hot.out)⟩
            case measure => simp [intOf]; omega
        · have hd2 : decide (j < bn) = false := by simp; omega
          have hjb : j = bn := by omega
          have hn6 : n ≤ 1000000 := by omega
          have HOT : Hid (OthP w lo (flK rs B)) := hid_of (by
            have h5 := hot.out
            rw [List.take_of_length_le (by have := HB.out; omega)] at h5
            exact h5)
          obtain ⟨L, hL⟩ : ∃ L, L = flK rs B := ⟨_, rfl⟩
          rw [← hL] at HOT
          have HLB : Hid (∀ r ∈ L, r ∈ B) := hid_of (by rw [hL]; exact fun r hr => flK_mem hr)
          have HCL : Hid (chkE U L = 0) := hid_of (chk_sub H1.out HLB.out)
          have HQL : Hid (q = L.all (entB U rs)) := hid_of (by rw [HQ.out, hL, flK_all H0.out H1.out])
          have HNL : Hid (n = L.length) := hid_of (by rw [← HOT.out.len, hll.out])
          have HC1 := hid_of (cmp_good (HI.out.at BWQ.out) H0.out)
          have HC2 : Hid (∀ W, Below wr.heap.size wr W → Calls Try.prog 44 #[.slice uo un uc, .slice oo n oc] W fun e w' => ∃ (R : List Hrl) (ao : Option Addr) (cap : Nat), e = .returned (.tuple #[.slice ao n cap, .int .i64 0]) ∧ Cmp U L R ∧ CoR W.heap.size w' (.slice ao n cap) R ∧ Below W.heap.size W w') := hid_of (fun W hW => by
            have hb9 := BWQ.out.trans (hW.mono BWQ.out.size)
            have hi := HI.out.at hb9
            exact cmp_good ⟨hi.ru, HOT.out.ru (how.out.prd.at hW) hb9, hi.hz, hi.un, hn6, fun r hr => by have := HL'.out r (HLB.out r hr); omega⟩ HCL.out)
          have HNC : Hid (∀ W R ao cap B0, CoR B0 W (.slice ao rn cap) R → Cmp U rs R → Calls Try.prog 46 #[.int .i64 un, .slice ao rn cap] W fun e w' => ∃ c, e = .returned (.pointer (some ⟨c, 0, none⟩)) ∧ E3 c un R W w') := hid_of (fun W R ao cap B0 hco hcm => (new_any B0 un R ao rn cap W hco (by rw [HI.out.ul]; exact cmp_ok (chk_ok H0.out).1 hcm fun r hr => ((chk_ok H0.out).2 r hr).1) hun hrn).mono (by
            rintro e w3 ⟨c, rfl, _, V, S, n1, n2, n3, _⟩
            exact ⟨c, rfl, [], 0, V, S, n1, Nat.le_refl _, n2, n3⟩))
          have HUL := hid_of HI.out.ul
          have BWR : Hid (Below w.heap.size w wr) := BWQ
          clear hjb hL hot hll how
          go_wp2_with (first
            | (go_at_call 44; ((with_reducible refine (HC1.out).mono ?_); (rintro e w6 ⟨R1, ao1, cap1, rfl, q1, q2, q3⟩)); have C1 := hid_of q1; have O1 := hid_of q2; have B6 := hid_of q3; clear q1 q2 q3)
            | (go_at_call 44; ((with_reducible refine (HC2.out w6 B6.out).mono ?_); (rintro e w7 ⟨R2, ao2, cap2, rfl, q1, q2, q3⟩)); have C2 := hid_of q1; have O2 := hid_of q2; have B7 := hid_of q3; clear q1 q2 q3)
            | (go_at_call 46; ((with_reducible refine (HNC.out w7 R1 ao1 cap1 _ (O1.out.at B7.out) C1.out).mono ?_); (rintro e w8 ⟨c, rfl, q1⟩)); have E8 := hid_of q1; clear q1))
          have BW7 : Hid (Below w.heap.size w w7) := hid_of (by
            have h5 := BWR.out.trans (B6.out.mono BWR.out.size)
            exact h5.trans (B7.out.mono h5.size))
          have ER : Hid (∀ wz k, E3 c un R1 w7 wz → k < n → ∃ g o a1 n1 d1 a2 n2 d2 r, ao2 = some ⟨g, o, none⟩ ∧ L[k]? = some r ∧ wz.cell? ⟨g, o + k * 2, none⟩ = some (.slice a1 n1 d1) ∧ wz.cell? ⟨g, o + k * 2 + 1, none⟩ = some (.slice a2 n2 d2) ∧
              Hid (Calls Try.prog 52 #[.pointer (some ⟨c, 0, none⟩), .agg #[.slice a1 n1 d1, .slice a2 n2 d2]] (wz.alloc (.cells #[.slice a1 n1 d1, .slice a2 n2 d2] 90)) fun e w' => e = .returned (.bool (entB U rs r)) ∧ E3 c un R1 w7 w')) := hid_of (fun wz k he hk => e3_round H0.out C1.out HCL.out C2.out O2.out hun HUL.out he hk)
          have HEB : Hid (∀ wz, E3 c un R1 w7 wz → Below w.heap.size w wz) := hid_of (fun wz he => by
            obtain ⟨_, _, _, _, _, _, h6, _⟩ := he
            exact BW7.out.trans (h6.mono BW7.out.size))
          obtain ⟨f, hf⟩ : ∃ f, f = entB U rs := ⟨_, rfl⟩
          rw [← hf] at ER HQL
          clear hf
          have hn8 : n ≤ 9223372036854775807 := by omega
          go_loopw [19, 65] (fun bv iv wz => ∃ (k : Nat) (v : Value), bv = v ∧ k ≤ n ∧ iv = .int .i64 k ∧ Hid (E3 c un R1 w7 wz) ∧ Hid ((L.take k).all f = true)) (fun _ iv _ => n - (intOf iv).toNat)
          case atStart => exact ⟨0, _, rfl, Nat.zero_le _, rfl, E8, hid_of rfl⟩
          case round =>
            obtain ⟨k, v, rfl, hk, rfl, he, hx⟩ := hrel
            by_cases hlt3 : k < n
            · have hd3 : decide (k < n) = true := by simp; omega
              obtain ⟨g, o, a1, n1, d1, a2, n2, d2, r, rfl, hr, c0, c1, HE⟩ := ER.out _ k he.out hlt3
              have HR := hid_of hr
              obtain ⟨b, hb⟩ : ∃ b, b = f r := ⟨_, rfl⟩
              rw [← hb] at HE
              have HF := hid_of hb
              clear hr hb
              cases b
              · have RF : Hid (q = false) := hid_of (by
                  rw [HQL.out, Bool.eq_false_iff]
                  intro h1
                  have := List.all_eq_true.1 h1 r (List.mem_of_getElem? HR.out)
                  rw [← HF.out] at this
                  cases this)
                go_wp2_with (go_at_call 52; ((with_reducible refine (HE.out).mono ?_); (rintro ee w9 ⟨rfl, q1⟩)); have E9 := hid_of q1; clear q1)
                go_ret
                exact ⟨by rw [RF.out] <;> rfl, HEB.out _ E9.out⟩
              · have HN : Hid ((L.take (k + 1)).all f = true) := hid_of (by rw [take_snoc_get HR.out, List.all_append, hx.out]; simp [HF.out.symm])
                go_wp2_with (go_at_call 52; ((with_reducible refine (HE.out).mono ?_); (rintro ee w9 ⟨rfl, q1⟩)); have E9 := hid_of q1; clear q1)
                go_roundw
                case rel => exact ⟨k + 1, _, rfl, by omega, by go_num, E9, HN⟩
                case measure => simp [intOf]; omega
            · have hd3 : decide (k < n) = false := by simp; omega
              have RF : Hid (q = true) := hid_of (by
                rw [HQL.out]
                have h1 := hx.out
                rw [List.take_of_length_le (by have := HNL.out; omega)] at h1
                exact h1)
              go_wp2
              go_ret
              exact ⟨by rw [RF.out] <;> rfl, HEB.out _ he.out⟩

set_option maxRecDepth 100000 in
set_option maxHeartbeats 1600000 in
theorem eqv_err1 (uo : Option Addr) (un uc : Nat) (U : List Str) (ao : Option Addr) (an ac : Nat) (A : List Gr) (bo : Option Addr) (bn bc : Nat) (B : List Gr) (w : World) (hA : InU w uo un uc U ao an ac A) (hB : InU w uo un uc U bo bn bc B) (q : Nat) (hq : chkE U A = q) (hq0 : q ≠ 0) :
    Calls Try.prog 31 #[.slice uo un uc, .slice ao an ac, .slice bo bn bc] w fun e w' => e = .returned (.tuple #[.bool false, .int .i64 (q : Int)]) ∧ Below w.heap.size w w' := by
  have CKA : Hid (∀ W, Below w.heap.size w W → Calls Try.prog 18 #[.slice uo un uc, .slice ao an ac] W fun e w' => e = .returned (.int .i64 q) ∧ Below w.heap.size w w') := hid_of (fun W hb => by
    have h := check_any uo un uc U ao an ac A W (hA.at hb)
    rw [hq] at h
    exact h.mono fun e w' ⟨h1, h2⟩ => ⟨h1, hb.trans (h2.mono hb.size)⟩)
  have t1 : ((q : Int) != 0) = true := by simp; omega
  have t2 : ((q : Int) == 0) = false := by simp; omega
  clear hA hB hq hq0
  go_enter Try.func31, Try.ntmps31
  go_wp2_with ((go_at_call 18; ((with_reducible refine (CKA.out w (Below.refl _ _)).mono ?_); (rintro ee w1 ⟨rfl, q1⟩)); have B1 := hid_of q1; clear q1))
  go_ret2
  exact ⟨rfl, B1.out⟩
set_option maxRecDepth 100000 in
set_option maxHeartbeats 1600000 in
theorem eqv_err2 (uo : Option Addr) (un uc : Nat) (U : List Str) (ao : Option Addr) (an ac : Nat) (A : List Gr) (bo : Option Addr) (bn bc : Nat) (B : List Gr) (w : World) (hA : InU w uo un uc U ao an ac A) (hB : InU w uo un uc U bo bn bc B) (h0 : chkE U A = 0) (q : Nat) (hq : chkE U B = q) (hq0 : q ≠ 0) :
    Calls Try.prog 31 #[.slice uo un uc, .slice ao an ac, .slice bo bn bc] w fun e w' => e = .returned (.tuple #[.bool false, .int .i64 (q : Int)]) ∧ Below w.heap.size w w' := by
  have CKA : Hid (∀ W, Below w.heap.size w W → Calls Try.prog 18 #[.slice uo un uc, .slice ao an ac] W fun e w' => e = .returned (.int .i64 0) ∧ Below w.heap.size w w') := hid_of (fun W hb => by
    have h := check_any uo un uc U ao an ac A W (hA.at hb)
    rw [h0] at h
    exact h.mono fun e w' ⟨h1, h2⟩ => ⟨h1, hb.trans (h2.mono hb.size)⟩)
  have CKB : Hid (∀ W, Below w.heap.size w W → Calls Try.prog 18 #[.slice uo un uc, .slice bo bn bc] W fun e w' => e = .returned (.int .i64 q) ∧ Below w.heap.size w w') := hid_of (fun W hb => by
    have h := check_any uo un uc U bo bn bc B W (hB.at hb)
    rw [hq] at h
    exact h.mono fun e w' ⟨h1, h2⟩ => ⟨h1, hb.trans (h2.mono hb.size)⟩)
  have t1 : ((q : Int) != 0) = true := by simp; omega
  have t2 : ((q : Int) == 0) = false := by simp; omega
  clear hA hB hq hq0 h0
  go_enter Try.func31, Try.ntmps31
  go_wp2_with (first
    | (go_at_call 18; ((with_reducible refine (CKA.out w (Below.refl _ _)).mono ?_); (rintro ee w1 ⟨rfl, q1⟩)); have B1 := hid_of q1; clear q1)
    | (go_at_call 18; ((with_reducible refine (CKB.out w1 B1.out).mono ?_); (rintro ee w2 ⟨rfl, q1⟩)); have B2 := hid_of q1; clear q1))
  go_ret2
  exact ⟨rfl, B2.out⟩
set_option maxRecDepth 100000 in
set_option maxHeartbeats 1600000 in
theorem eqv_good (JC : JoinC) (uo : Option Addr) (un uc : Nat) (U : List Str) (ao : Option Addr) (an ac : Nat) (A : List Gr) (bo : Option Addr) (bn bc : Nat) (B : List Gr) (w : World) (hA : InU w uo un uc U ao an ac A) (hB : InU w uo un uc U bo bn bc B) (la : ∀ r ∈ A, r.1.length ≤ 10000) (lb : ∀ r ∈ B, r.1.length ≤ 10000) (h0 : chkE U A = 0) (h1 : chkE U B = 0) :
    Calls Try.prog 31 #[.slice uo un uc, .slice ao an ac, .slice bo bn bc] w fun e w' => e = .returned (.tuple #[.bool (eqvB U A B), .int .i64 0]) ∧ Below w.heap.size w w' := by
  have CKA : Hid (∀ W, Below w.heap.size w W → Calls Try.prog 18 #[.slice uo un uc, .slice ao an ac] W fun e w' => e = .returned (.int .i64 0) ∧ Below w.heap.size w w') := hid_of (fun W hb => by
    have h := check_any uo un uc U ao an ac A W (hA.at hb)
    rw [h0] at h
    exact h.mono fun e w' ⟨h1, h2⟩ => ⟨h1, hb.trans (h2.mono hb.size)⟩)
  have CKB : Hid (∀ W, Below w.heap.size w W → Calls Try.prog 18 #[.slice uo un uc, .slice bo bn bc] W fun e w' => e = .returned (.int .i64 0) ∧ Below w.heap.size w w') := hid_of (fun W hb => by
    have h := check_any uo un uc U bo bn bc B W (hB.at hb)
    rw [h1] at h
    exact h.mono fun e w' ⟨h1, h2⟩ => ⟨h1, hb.trans (h2.mono hb.size)⟩)
  obtain ⟨x, hx⟩ : ∃ x, x = B.all (entB U A) := ⟨_, rfl⟩
  obtain ⟨y, hy⟩ : ∃ y, y = A.all (entB U B) := ⟨_, rfl⟩
  have HV : Hid (eqvB U A B = (y && x)) := hid_of (by rw [hx, hy]; rfl)
  have EA : Hid (∀ W, Below w.heap.size w W → Calls Try.prog 56 #[.slice uo un uc, .slice ao an ac, .slice bo bn bc] W fun e w' => e = .returned (.bool x) ∧ Below w.heap.size w w') := hid_of (fun W hb => by
    exact (ela_any JC uo un uc U ao an ac A bo bn bc B W (hA.at hb) (hB.at hb) la lb h0 h1 x hx).mono fun e w' ⟨h1, h2⟩ => ⟨h1, hb.trans (h2.mono hb.size)⟩)
  have EB : Hid (∀ W, Below w.heap.size w W → Calls Try.prog 56 #[.slice uo un uc, .slice bo bn bc, .slice ao an ac] W fun e w' => e = .returned (.bool y) ∧ Below w.heap.size w w') := hid_of (fun W hb => by
    exact (ela_any JC uo un uc U bo bn bc B ao an ac A W (hB.at hb) (hA.at hb) lb la h1 h0 y hy).mono fun e w' ⟨h1, h2⟩ => ⟨h1, hb.trans (h2.mono hb.size)⟩)
  obtain ⟨v, hv⟩ : ∃ v, v = eqvB U A B := ⟨_, rfl⟩
  rw [← hv] at HV ⊢
  clear hA hB la lb h0 h1 hx hy hv JC
  cases x
  all_goals
    go_enter Try.func31, Try.ntmps31
    go_wp2_with (first
      | (go_at_call 18; ((with_reducible refine (CKA.out w (Below.refl _ _)).mono ?_); (rintro ee w1 ⟨rfl, q1⟩)); have B1 := hid_of q1; clear q1)
      | (go_at_call 18; ((with_reducible refine (CKB.out w1 B1.out).mono ?_); (rintro ee w2 ⟨rfl, q1⟩)); have B2 := hid_of q1; clear q1)
      | (go_at_call 56; ((with_reducible refine (EA.out w2 B2.out).mono ?_); (rintro ee w3 ⟨rfl, q1⟩)); have B3 := hid_of q1; clear q1)
      | (go_at_call 56; ((with_reducible refine (EB.out w3 B3.out).mono ?_); (rintro ee w4 ⟨rfl, q1⟩)); have B4 := hid_of q1; clear q1))
    go_ret2
    first
      | exact ⟨by rw [HV.out, Bool.and_false] <;> rfl, B3.out⟩
      | exact ⟨by rw [HV.out, Bool.and_true] <;> rfl, B4.out⟩
end Go.Proofs.Ytedohggbpmcehaa

/- The rules that are left, in numbers and in names. Plain mathematics. -/
namespace Go.Proofs.Ytedohggbpmcehaa
open Go.RowKit

theorem on_same {R R' : List Hrl} {off off' : Nat → Nat} (h : ∀ z, On R off z ↔ On R' off' z) {S : Nat → Prop} {x : Nat} : Der (On R off) S x ↔ Der (On R' off') S x :=
  ⟨fun hd => der_rules (fun r hr => (h r).1 hr) hd, fun hd => der_rules (fun r hr => (h r).2 hr) hd⟩
theorem rmF_mem (R : List Hrl) : ∀ (i : Nat) (z : Hrl), z ∈ (rmF R i).2 ↔ ∃ j, j < i ∧ R[j]? = some z ∧ (rmF R i).1 j = 0
  | 0, z => ⟨fun h => (by cases h), fun ⟨j, h, _⟩ => (by omega)⟩
  | i + 1, z => by
    have ih := rmF_mem R i z
    cases hR : R[i]? with
    | none =>
      have e : rmF R (i + 1) = rmF R i := by simp only [rmF, hR]
      rw [e, ih]
      refine ⟨fun ⟨j, h1, h2, h3⟩ => ⟨j, by omega, h2, h3⟩, fun ⟨j, h1, h2, h3⟩ => ⟨j, ?_, h2, h3⟩⟩
      rcases Nat.lt_or_ge j i with h4 | h4
      · exact h4
      · have : j = i := by omega
        rw [this, hR] at h2; cases h2
    | some y =>
      cases hb : entD R (offR (rmF R i).1 i) y with
      | true =>
        rw [rmF_yes hR hb]
        show z ∈ (rmF R i).2 ↔ ∃ j, j < i + 1 ∧ R[j]? = some z ∧ offR (rmF R i).1 i j = 0
        rw [ih]
        refine ⟨fun ⟨j, h1, h2, h3⟩ => ⟨j, by omega, h2, by unfold offR; rw [if_neg (by omega)]; exact h3⟩, fun ⟨j, h1, h2, h3⟩ => ?_⟩
        unfold offR at h3
        by_cases e : j = i
        · rw [if_pos e] at h3; omega
        · rw [if_neg e] at h3; exact ⟨j, by omega, h2, h3⟩
      | false =>
        rw [rmF_no hR hb]
        show z ∈ (rmF R i).2 ++ [y] ↔ ∃ j, j < i + 1 ∧ R[j]? = some z ∧ (rmF R i).1 j = 0
        rw [List.mem_append, List.mem_singleton, ih]
        constructor
        · rintro (⟨j, h1, h2, h3⟩ | rfl)
          · exact ⟨j, by omega, h2, h3⟩
          · exact ⟨i, by omega, hR, rmF_off R i i (Nat.le_refl _)⟩
        · rintro ⟨j, h1, h2, h3⟩
          by_cases e : j = i
          · right; rw [e, hR] at h2; cases h2; rfl
          · exact .inl ⟨j, by omega, h2, h3⟩
/-- The rules that are on when rule i is put off. -/
theorem rmF_on (R : List Hrl) (i : Nat) (z : Hrl) : On R (offR (rmF R i).1 i) z ↔ On ((rmF R i).2 ++ R.drop (i + 1)) off0 z := by
  have h0 : On ((rmF R i).2 ++ R.drop (i + 1)) off0 z ↔ z ∈ (rmF R i).2 ++ R.drop (i + 1) :=
    ⟨fun ⟨j, hj, _⟩ => List.mem_of_getElem? hj, fun h => by obtain ⟨j, hj⟩ := List.getElem?_of_mem h; exact ⟨j, hj, rfl⟩⟩
  rw [h0, List.mem_append, rmF_mem]
  constructor
  · rintro ⟨j, hj, ho⟩
    unfold offR at ho
    by_cases e : j = i
    · rw [if_pos e] at ho; omega
    · rw [if_neg e] at ho
      rcases Nat.lt_or_ge j i with h1 | h1
      · exact .inl ⟨j, h1, hj, ho⟩
      · refine .inr (List.mem_of_getElem? (i := j - (i + 1)) ?_)
        rw [List.getElem?_drop, show i + 1 + (j - (i + 1)) = j by omega]
        exact hj
  · rintro (⟨j, h1, h2, h3⟩ | h)
    · exact ⟨j, h2, by unfold offR; rw [if_neg (by omega)]; exact h3⟩
    · obtain ⟨j, hj⟩ := List.getElem?_of_mem h
      rw [List.getElem?_drop] at hj
      exact ⟨i + 1 + j, hj, by unfold offR; rw [if_neg (by omega)]; exact rmF_off R i _ (by omega)⟩
theorem Cmp.app {U : List Str} {a b : List Gr} {A B : List Hrl} (h : Cmp U a A) (h' : Cmp U b B) : Cmp U (a ++ b) (A ++ B) := by
  refine ⟨by rw [List.length_append, List.length_append, h.len, h'.len], fun i r q hr hq => ?_⟩
  by_cases e : i < a.length
  · rw [List.getElem?_append_left e] at hr
    rw [List.getElem?_append_left (by rw [h.len]; exact e)] at hq
    exact h.at_ i r q hr hq
  · rw [List.getElem?_append_right (by omega)] at hr
    rw [List.getElem?_append_right (by rw [h.len]; omega), h.len] at hq
    exact h'.at_ _ r q hr hq
theorem Cmp.dropN {U : List Str} {a : List Gr} {A : List Hrl} (h : Cmp U a A) (k : Nat) : Cmp U (a.drop k) (A.drop k) :=
  ⟨by rw [List.length_drop, List.length_drop, h.len], fun i r q hr hq => h.at_ (k + i) r q (by rw [List.getElem?_drop] at hr; exact hr) (by rw [List.getElem?_drop] at hq; exact hq)⟩
/-- The rules that are left behind the first i, in names. -/
noncomputable def rmS (U : List Str) (rs : List Gr) : Nat → List Gr
  | 0 => []
  | i + 1 => match rs[i]? with
    | none => rmS U rs i
    | some r => if entB U (rmS U rs i ++ rs.drop (i + 1)) r then rmS U rs i else rmS U rs i ++ [r]
theorem rmS_sub {U : List Str} {rs : List Gr} : ∀ (i : Nat) (r : Gr), r ∈ rmS U rs i → r ∈ rs
  | 0, r, h => by cases h
  | i + 1, r, h => by
    unfold rmS at h
    split at h
    · exact rmS_sub i r h
    · rename_i q hq
      split at h
      · exact rmS_sub i r h
      · rcases List.mem_append.1 h with h | h
        · exact rmS_sub i r h
        · rw [List.mem_singleton.1 h]; exact List.mem_of_getElem? hq
/-- Entailment in names is entailment in numbers. -/
theorem entB_num {U : List Str} {rs : List Gr} {R : List Hrl} {r : Gr} {z : Hrl} (h0 : chkE U rs = 0) (hc : Cmp U rs R) (hr : ruE U r = 0) (h1 : Ix U r.1 z.1) (h2 : Ix U [r.2] z.2) : entB U rs r = entD R off0 z := by
  obtain ⟨hU, hok⟩ := chk_ok h0
  unfold entD
  rw [Bool.eq_iff_iff, entB_iff h0 hr]
  refine Iff.trans ?_ (@decide_eq_true_iff _ (Classical.propDecidable _)).symm
  constructor
  · intro hd y hy
    obtain ⟨i, k1, k2⟩ := derS_to hU hc h1 (fun r hr => ⟨(hok r hr).2.1, (hok r hr).2.2⟩) hd
    obtain ⟨x', k3, k4⟩ := h2.mem hy
    rw [List.mem_singleton.1 k3] at k4
    rw [ss_inj hU k4 k1]; exact k2
  · intro hall
    obtain ⟨i, hi1, hi2⟩ := h2.mem_back (x := r.2) (by simp)
    exact der_toS hc h1 (hall i hi1) r.2 hi2
theorem rm_names {U : List Str} {rs : List Gr} {R : List Hrl} (h0 : chkE U rs = 0) (hc : Cmp U rs R) : ∀ i, i ≤ rs.length → Cmp U (rmS U rs i) (rmF R i).2
  | 0, _ => ⟨rfl, fun i r q hr => (by simp [rmS] at hr)⟩
  | i + 1, hi => by
    have ih := rm_names h0 hc i (by omega)
    obtain ⟨r, hr⟩ : ∃ r, rs[i]? = some r := ⟨_, List.getElem?_eq_getElem (by omega)⟩
    obtain ⟨z, hz⟩ : ∃ z, R[i]? = some z := ⟨_, List.getElem?_eq_getElem (by rw [hc.len]; omega)⟩
    obtain ⟨x1, x2⟩ := hc.at_ i r z hr hz
    have hru : ruE U r = 0 := by
      have h1 := h0
      unfold chkE at h1
      split at h1
      · omega
      · split at h1
        · omega
        · exact rus_all h1 r (List.mem_of_getElem? hr)
    have hc2 := ih.app (hc.dropN (i + 1))
    have h2 : chkE U (rmS U rs i ++ rs.drop (i + 1)) = 0 := chk_sub h0 fun q hq => by
      rcases List.mem_append.1 hq with h | h
      · exact rmS_sub i q h
      · exact List.mem_of_mem_drop h
    have he : entB U (rmS U rs i ++ rs.drop (i + 1)) r = entD R (offR (rmF R i).1 i) z := by
      rw [entB_num h2 hc2 hru x1 x2]
      unfold entD
      rw [Bool.eq_iff_iff]
      refine (@decide_eq_true_iff _ (Classical.propDecidable _)).trans (Iff.trans ?_ (@decide_eq_true_iff _ (Classical.propDecidable _)).symm)
      exact ⟨fun h x hx => (on_same (fun z => (rmF_on R i z))).2 (h x hx), fun h x hx => (on_same (fun z => (rmF_on R i z))).1 (h x hx)⟩
    cases hb : entD R (offR (rmF R i).1 i) z with
    | true =>
      rw [rmF_yes hz hb]
      have : rmS U rs (i + 1) = rmS U rs i := by simp only [rmS, hr]; rw [if_pos (by rw [he, hb])]
      rw [this]; exact ih
    | false =>
      rw [rmF_no hz hb]
      have : rmS U rs (i + 1) = rmS U rs i ++ [r] := by simp only [rmS, hr]; rw [if_neg (by rw [he, hb]; simp)]
      rw [this]
      exact ih.app ⟨rfl, fun k r' q' hr' hq' => by
        have hk : k = 0 := by have := (List.getElem?_eq_some_iff.1 hr').1; simp at this; omega
        subst hk
        simp only [List.getElem?_cons_zero, Option.some.injEq] at hr' hq'
        rw [← hr', ← hq']; exact ⟨x1, x2⟩⟩
end Go.Proofs.Ytedohggbpmcehaa

/- The rules without superfluous premises and without superfluous rules, in numbers and in names. Plain mathematics. -/
namespace Go.Proofs.Ytedohggbpmcehaa
open Go.RowKit

/-- The premises that are left: d has been looked at, t is still to be. -/
noncomputable def prG (R : List Hrl) (c : List Nat) : List Nat → List Nat → List Nat
  | d, [] => d
  | d, x :: t => if entD R off0 (d ++ t, c) then prG R c d t else prG R c (d ++ [x]) t
noncomputable def prN (R : List Hrl) (z : Hrl) : Hrl := (prG R z.2 [] z.1, z.2)
/-- The same in names. -/
noncomputable def prH (U : List Str) (rs : List Gr) (y : Str) : List Str → List Str → List Str
  | d, [] => d
  | d, x :: t => if entB U rs (d ++ t, y) then prH U rs y d t else prH U rs y (d ++ [x]) t
noncomputable def prS (U : List Str) (rs : List Gr) (r : Gr) : Gr := (prH U rs r.2 [] r.1, r.2)
/-- The reduced rules. -/
noncomputable def redS (U : List Str) (rs : List Gr) : List Gr := rmS U (rs.map (prS U rs)) rs.length

theorem prG_yes {R : List Hrl} {c d : List Nat} {x : Nat} {t : List Nat} (h : entD R off0 (d ++ t, c) = true) : prG R c d (x :: t) = prG R c d t := by rw [prG, if_pos h]
theorem prG_no {R : List Hrl} {c d : List Nat} {x : Nat} {t : List Nat} (h : entD R off0 (d ++ t, c) = false) : prG R c d (x :: t) = prG R c (d ++ [x]) t := by rw [prG, if_neg (by rw [h]; simp)]
theorem prH_yes {U : List Str} {rs : List Gr} {y : Str} {d : List Str} {x : Str} {t : List Str} (h : entB U rs (d ++ t, y) = true) : prH U rs y d (x :: t) = prH U rs y d t := by rw [prH, if_pos h]
theorem prH_no {U : List Str} {rs : List Gr} {y : Str} {d : List Str} {x : Str} {t : List Str} (h : entB U rs (d ++ t, y) = false) : prH U rs y d (x :: t) = prH U rs y (d ++ [x]) t := by rw [prH, if_neg (by rw [h]; simp)]
theorem prG_sub (R : List Hrl) (c : List Nat) : ∀ t d, List.Sublist (prG R c d t) (d ++ t)
  | [], d => by rw [prG, List.append_nil]; exact List.Sublist.refl _
  | x :: t, d => by
    cases h : entD R off0 (d ++ t, c) with
    | true => rw [prG_yes h]; exact (prG_sub R c t d).trans (List.Sublist.append (List.Sublist.refl _) (List.sublist_cons_self _ _))
    | false =>
      rw [prG_no h]
      have := prG_sub R c t (d ++ [x])
      rw [List.append_assoc] at this
      exact this
theorem prH_sub (U : List Str) (rs : List Gr) (y : Str) : ∀ t d, List.Sublist (prH U rs y d t) (d ++ t)
  | [], d => by rw [prH, List.append_nil]; exact List.Sublist.refl _
  | x :: t, d => by
    cases h : entB U rs (d ++ t, y) with
    | true => rw [prH_yes h]; exact (prH_sub U rs y t d).trans (List.Sublist.append (List.Sublist.refl _) (List.sublist_cons_self _ _))
    | false =>
      rw [prH_no h]
      have := prH_sub U rs y t (d ++ [x])
      rw [List.append_assoc] at this
      exact this
theorem prS_sub (U : List Str) (rs : List Gr) (r : Gr) : List.Sublist (prS U rs r).1 r.1 := prH_sub U rs r.2 r.1 []
theorem prN_sub (R : List Hrl) (z : Hrl) : List.Sublist (prN R z).1 z.1 := prG_sub R z.2 z.1 []

theorem Ix.app {U a b : List Str} {A B : List Nat} (h : Ix U a A) (h' : Ix U b B) : Ix U (a ++ b) (A ++ B) := by
  unfold Ix at *
  rw [List.map_append, List.map_append, h, h']
theorem Ix.uncons {U t : List Str} {x : Str} {L : List Nat} (h : Ix U (x :: t) L) : ∃ i L', L = i :: L' ∧ U[i]? = some x ∧ Ix U t L' := by
  unfold Ix at *
  cases L with
  | nil => simp at h
  | cons i L' =>
    simp only [List.map_cons, List.cons.injEq] at h
    exact ⟨i, L', rfl, h.1, h.2⟩
theorem ix_one {U : List Str} {x : Str} {i : Nat} (h : U[i]? = some x) : Ix U [x] [i] := by unfold Ix; simp [h]
theorem ix_nil {U : List Str} {L : List Nat} (h : Ix U [] L) : L = [] := by unfold Ix at h; simpa using h
theorem ruE_mk {U : List Str} {p : List Str} {y : Str} (h1 : SS p) (h2 : ∀ x ∈ p, x ∈ U) (h3 : y ∈ U) : ruE U (p, y) = 0 := by
  unfold ruE
  rw [if_neg (not_not_intro h1), if_neg (not_not_intro h2), if_neg (not_not_intro h3)]
theorem ruE_open {U : List Str} {r : Gr} (h : ruE U r = 0) : SS r.1 ∧ (∀ x ∈ r.1, x ∈ U) ∧ r.2 ∈ U := by
  rcases ruE_cases U r with ⟨e, _⟩ | ⟨e, _⟩ | ⟨e, _⟩ | ⟨_, e1, e2, e3⟩
  · omega
  · omega
  · omega
  · exact ⟨e1, e2, e3⟩
theorem chk_rules {U : List Str} {rs : List Gr} (h : chkE U rs = 0) : ∀ r ∈ rs, ruE U r = 0 := by
  unfold chkE at h
  split at h
  · omega
  · split at h
    · omega
    · exact rus_all h
theorem chk_mk {U : List Str} {rs qs : List Gr} (h : chkE U rs = 0) (hq : ∀ r ∈ qs, ruE U r = 0) : chkE U qs = 0 := by
  unfold chkE at h ⊢
  split at h
  · omega
  · rename_i h1
    split at h
    · omega
    · rename_i h2
      rw [if_neg h1, if_neg h2]
      exact rusE_zero hq
theorem ss_sub {a b : List Str} (h : SS b) (hs : List.Sublist a b) : SS a := List.Pairwise.sublist hs h

theorem pr_names {U : List Str} {rs : List Gr} {R : List Hrl} (h0 : chkE U rs = 0) (hc : Cmp U rs R) {y : Str} {c : List Nat} (hy : y ∈ U) (h2 : Ix U [y] c) :
    ∀ (t : List Str) (tn : List Nat) (d : List Str) (dn : List Nat), Ix U d dn → Ix U t tn → SS (d ++ t) → (∀ x ∈ d ++ t, x ∈ U) → Ix U (prH U rs y d t) (prG R c dn tn)
  | [], tn, d, dn, hd, ht, _, _ => by
    rw [ix_nil ht, prH, prG]; exact hd
  | x :: t, tn, d, dn, hd, ht, hs, hu => by
    obtain ⟨i, tn', rfl, hi, ht'⟩ := ht.uncons
    have hsub : List.Sublist (d ++ t) (d ++ x :: t) := List.Sublist.append (List.Sublist.refl _) (List.sublist_cons_self _ _)
    have hs' := ss_sub hs hsub
    have hu' : ∀ z ∈ d ++ t, z ∈ U := fun z hz => hu z (hsub.subset hz)
    have he : entB U rs (d ++ t, y) = entD R off0 (dn ++ tn', c) := entB_num (z := (dn ++ tn', c)) h0 hc (ruE_mk hs' hu' hy) (hd.app ht') h2
    cases hb : entD R off0 (dn ++ tn', c) with
    | true =>
      rw [prG_yes hb, prH_yes (by rw [he, hb])]
      exact pr_names h0 hc hy h2 t tn' d dn hd ht' hs' hu'
    | false =>
      rw [prG_no hb, prH_no (by rw [he, hb])]
      exact pr_names h0 hc hy h2 t tn' (d ++ [x]) (dn ++ [i]) (hd.app (ix_one hi)) ht' (by rw [List.append_assoc]; exact hs) (by rw [List.append_assoc]; exact hu)
theorem prs_ru {U : List Str} {rs : List Gr} (h0 : chkE U rs = 0) : ∀ r ∈ rs.map (prS U rs), ruE U r = 0 := fun q hq => by
  obtain ⟨r, hr, rfl⟩ := List.mem_map.1 hq
  obtain ⟨h1, h2, h3⟩ := ruE_open (chk_rules h0 r hr)
  have hs := prS_sub U rs r
  exact ruE_mk (ss_sub h1 hs) (fun x hx => h2 x (hs.subset hx)) h3
theorem prs_chk {U : List Str} {rs : List Gr} (h0 : chkE U rs = 0) : chkE U (rs.map (prS U rs)) = 0 := chk_mk h0 (prs_ru h0)
theorem prs_names {U : List Str} {rs : List Gr} {R : List Hrl} (h0 : chkE U rs = 0) (hc : Cmp U rs R) : Cmp U (rs.map (prS U rs)) (R.map (prN R)) := by
  refine ⟨by rw [List.length_map, List.length_map, hc.len], fun i q z hq hz => ?_⟩
  rw [List.getElem?_map, Option.map_eq_some_iff] at hq hz
  obtain ⟨r, hr, rfl⟩ := hq
  obtain ⟨y, hy, rfl⟩ := hz
  obtain ⟨x1, x2⟩ := hc.at_ i r y hr hy
  obtain ⟨h1, h2, h3⟩ := ruE_open (chk_rules h0 r (List.mem_of_getElem? hr))
  exact ⟨pr_names h0 hc h3 x2 r.1 y.1 [] [] rfl x1 h1 h2, x2⟩
/-- The reduced rules, in numbers. -/
theorem red_names {U : List Str} {rs : List Gr} {R : List Hrl} (h0 : chkE U rs = 0) (hc : Cmp U rs R) : Cmp U (redS U rs) (rmF (R.map (prN R)) (R.map (prN R)).length).2 := by
  have h := rm_names (prs_chk h0) (prs_names h0 hc) rs.length (by rw [List.length_map]; exact Nat.le_refl _)
  rw [List.length_map, hc.len]
  exact h
theorem rmS_len (U : List Str) (P : List Gr) : ∀ i, (rmS U P i).length ≤ i
  | 0 => Nat.le_refl _
  | i + 1 => by
    have ih := rmS_len U P i
    unfold rmS
    split
    · omega
    · split
      · omega
      · rw [List.length_append, List.length_singleton]; omega
theorem red_len (U : List Str) (rs : List Gr) : (redS U rs).length ≤ rs.length := rmS_len _ _ _
theorem red_sub {U : List Str} {rs : List Gr} : ∀ r ∈ redS U rs, r ∈ rs.map (prS U rs) := fun r hr => rmS_sub _ r hr
theorem red_ru {U : List Str} {rs : List Gr} (h0 : chkE U rs = 0) : ∀ r ∈ redS U rs, ruE U r = 0 := fun r hr => prs_ru h0 r (red_sub r hr)
theorem red_chk {U : List Str} {rs : List Gr} (h0 : chkE U rs = 0) : chkE U (redS U rs) = 0 := chk_mk h0 (red_ru h0)

/-- Derivations where the rules are entailed. -/
theorem derS_rules {rs qs : List Gr} {S : Str → Prop} {x : Str} (h : ∀ r ∈ rs, DerS qs (fun y => y ∈ r.1) r.2) (hd : DerS rs S x) : DerS qs S x := by
  induction hd with
  | base h1 => exact .base h1
  | rule hr _ ih => exact derS_mono (fun y hy => ih y hy) (h _ hr)
theorem derS_own {rs : List Gr} {r : Gr} (h : r ∈ rs) : DerS rs (fun y => y ∈ r.1) r.2 := .rule h fun _ hy => .base hy
theorem derS_sub {rs qs : List Gr} {S : Str → Prop} {x : Str} (h : ∀ r ∈ rs, r ∈ qs) (hd : DerS rs S x) : DerS qs S x := derS_rules (fun r hr => derS_own (h r hr)) hd
theorem derS_in {rs : List Gr} {S S' : Str → Prop} {x : Str} (h : ∀ y, S y → S' y) (hd : DerS rs S x) : DerS rs S' x := derS_mono (fun y hy => .base (h y hy)) hd

section
variable {U : List Str} {rs : List Gr}
theorem prH_ent (h0 : chkE U rs = 0) {y : Str} (hy : y ∈ U) : ∀ (t d : List Str), SS (d ++ t) → (∀ x ∈ d ++ t, x ∈ U) → DerS rs (fun x => x ∈ d ++ t) y → DerS rs (fun x => x ∈ prH U rs y d t) y
  | [], d, _, _, hd => by rw [prH]; rw [List.append_nil] at hd; exact hd
  | x :: t, d, hs, hu, hd => by
    have hsub : List.Sublist (d ++ t) (d ++ x :: t) := List.Sublist.append (List.Sublist.refl _) (List.sublist_cons_self _ _)
    have hs' := ss_sub hs hsub
    have hu' : ∀ z ∈ d ++ t, z ∈ U := fun z hz => hu z (hsub.subset hz)
    cases hb : entB U rs (d ++ t, y) with
    | true =>
      rw [prH_yes hb]
      exact prH_ent h0 hy t d hs' hu' ((entB_iff (r := (d ++ t, y)) h0 (ruE_mk hs' hu' hy)).1 hb)
    | false =>
      rw [prH_no hb]
      exact prH_ent h0 hy t (d ++ [x]) (by rw [List.append_assoc]; exact hs) (by rw [List.append_assoc]; exact hu) (by rw [List.append_assoc]; exact hd)
theorem prH_min (h0 : chkE U rs = 0) {y : Str} (hy : y ∈ U) : ∀ (t d : List Str), SS (d ++ t) → (∀ x ∈ d ++ t, x ∈ U) → (∀ k, k < d.length → ¬ DerS rs (fun x => x ∈ d.eraseIdx k ++ t) y) →
    ∀ k, k < (prH U rs y d t).length → ¬ DerS rs (fun x => x ∈ (prH U rs y d t).eraseIdx k) y
  | [], d, _, _, hm, k, hk => by
    rw [prH] at hk ⊢
    have := hm k hk
    rw [List.append_nil] at this
    exact this
  | x :: t, d, hs, hu, hm, k, hk => by
    have hsub : List.Sublist (d ++ t) (d ++ x :: t) := List.Sublist.append (List.Sublist.refl _) (List.sublist_cons_self _ _)
    have hs' := ss_sub hs hsub
    have hu' : ∀ z ∈ d ++ t, z ∈ U := fun z hz => hu z (hsub.subset hz)
    cases hb : entB U rs (d ++ t, y) with
    | true =>
      rw [prH_yes hb] at hk ⊢
      refine prH_min h0 hy t d hs' hu' (fun j hj hd => hm j hj (derS_in (fun z hz => ?_) hd)) k hk
      rcases List.mem_append.1 hz with hz | hz
      · exact List.mem_append_left _ hz
      · exact List.mem_append_right _ (List.mem_cons_of_mem _ hz)
    | false =>
      rw [prH_no hb] at hk ⊢
      refine prH_min h0 hy t (d ++ [x]) (by rw [List.append_assoc]; exact hs) (by rw [List.append_assoc]; exact hu) (fun j hj hd => ?_) k hk
      by_cases hj2 : j < d.length
      · rw [List.eraseIdx_append_of_lt_length hj2, List.append_assoc] at hd
        exact hm j hj2 hd
      · have hj3 : j = d.length := by rw [List.length_append, List.length_singleton] at hj; omega
        rw [hj3, List.eraseIdx_append_of_length_le (Nat.le_refl _), Nat.sub_self] at hd
        have e : d ++ [x].eraseIdx 0 = d := by simp
        rw [e] at hd
        rw [(entB_iff (r := (d ++ t, y)) h0 (ruE_mk hs' hu' hy)).2 hd] at hb
        cases hb
/-- The rules entail those without superfluous premises, and the other way round. -/
theorem prs_ent (h0 : chkE U rs = 0) : ∀ q ∈ rs.map (prS U rs), DerS rs (fun y => y ∈ q.1) q.2 := fun q hq => by
  obtain ⟨r, hr, rfl⟩ := List.mem_map.1 hq
  obtain ⟨h1, h2, h3⟩ := ruE_open (chk_rules h0 r hr)
  exact prH_ent h0 h3 r.1 [] h1 h2 (derS_own hr)
theorem ent_prs : ∀ r ∈ rs, DerS (rs.map (prS U rs)) (fun y => y ∈ r.1) r.2 := fun r hr =>
  derS_in (fun _ hy => (prS_sub U rs r).subset hy) (derS_own (r := prS U rs r) (List.mem_map.2 ⟨r, hr, rfl⟩))
theorem drop_cons {α : Type} {P : List α} {i : Nat} {q : α} (h : P[i]? = some q) : P.drop i = q :: P.drop (i + 1) := by
  obtain ⟨h1, h2⟩ := List.getElem?_eq_some_iff.1 h
  rw [List.drop_eq_getElem_cons h1, h2]
theorem rmS_yes {P : List Gr} {i : Nat} {q : Gr} (hq : P[i]? = some q) (hb : entB U (rmS U P i ++ P.drop (i + 1)) q = true) : rmS U P (i + 1) = rmS U P i := by simp only [rmS, hq]; rw [if_pos hb]
theorem rmS_no {P : List Gr} {i : Nat} {q : Gr} (hq : P[i]? = some q) (hb : entB U (rmS U P i ++ P.drop (i + 1)) q = false) : rmS U P (i + 1) = rmS U P i ++ [q] := by simp only [rmS, hq]; rw [if_neg (by rw [hb]; simp)]
theorem rmS_chk {P : List Gr} (h0 : chkE U P = 0) (i : Nat) : chkE U (rmS U P i ++ P.drop (i + 1)) = 0 := chk_sub h0 fun q hq => by
  rcases List.mem_append.1 hq with h | h
  · exact rmS_sub i q h
  · exact List.mem_of_mem_drop h
theorem rmS_ent {P : List Gr} (h0 : chkE U P = 0) : ∀ i, i ≤ P.length → ∀ r ∈ P, DerS (rmS U P i ++ P.drop i) (fun y => y ∈ r.1) r.2
  | 0, _, r, hr => derS_own (by rw [rmS, List.drop_zero, List.nil_append]; exact hr)
  | i + 1, hi, r, hr => by
    have ih := rmS_ent h0 i (by omega) r hr
    obtain ⟨q, hq⟩ : ∃ q, P[i]? = some q := ⟨_, List.getElem?_eq_getElem (by omega)⟩
    rw [drop_cons hq] at ih
    cases hb : entB U (rmS U P i ++ P.drop (i + 1)) q with
    | true =>
      rw [rmS_yes hq hb]
      have he := (entB_iff (rmS_chk h0 i) (chk_rules h0 q (List.mem_of_getElem? hq))).1 hb
      refine derS_rules (fun z hz => ?_) ih
      rcases List.mem_append.1 hz with hz | hz
      · exact derS_own (List.mem_append_left _ hz)
      · rcases List.mem_cons.1 hz with rfl | hz
        · exact he
        · exact derS_own (List.mem_append_right _ hz)
    | false => rw [rmS_no hq hb, List.append_assoc]; exact ih
theorem rmS_irr {P : List Gr} (h0 : chkE U P = 0) : ∀ i, i ≤ P.length → ∀ k q, (rmS U P i)[k]? = some q → ¬ DerS ((rmS U P i).eraseIdx k ++ P.drop i) (fun y => y ∈ q.1) q.2
  | 0, _, k, q, hq => by rw [rmS] at hq; cases hq
  | i + 1, hi, k, q, hq => by
    obtain ⟨p, hp⟩ : ∃ p, P[i]? = some p := ⟨_, List.getElem?_eq_getElem (by omega)⟩
    cases hb : entB U (rmS U P i ++ P.drop (i + 1)) p with
    | true =>
      rw [rmS_yes hp hb] at hq ⊢
      intro hd
      refine rmS_irr h0 i (by omega) k q hq (derS_sub (fun z hz => ?_) hd)
      rw [drop_cons hp]
      rcases List.mem_append.1 hz with hz | hz
      · exact List.mem_append_left _ hz
      · exact List.mem_append_right _ (List.mem_cons_of_mem _ hz)
    | false =>
      rw [rmS_no hp hb] at hq ⊢
      intro hd
      by_cases hk : k < (rmS U P i).length
      · rw [List.getElem?_append_left hk] at hq
        rw [List.eraseIdx_append_of_lt_length hk, List.append_assoc] at hd
        refine rmS_irr h0 i (by omega) k q hq ?_
        rw [drop_cons hp]; exact hd
      · have hk2 : k = (rmS U P i).length := by have := (List.getElem?_eq_some_iff.1 hq).1; rw [List.length_append, List.length_singleton] at this; omega
        rw [hk2, List.getElem?_append_right (Nat.le_refl _), Nat.sub_self] at hq
        simp only [List.getElem?_cons_zero, Option.some.injEq] at hq
        subst hq
        rw [hk2, List.eraseIdx_append_of_length_le (Nat.le_refl _), Nat.sub_self] at hd
        have e : rmS U P i ++ [p].eraseIdx 0 = rmS U P i := by simp
        rw [e] at hd
        rw [(entB_iff (rmS_chk h0 i) (chk_rules h0 p (List.mem_of_getElem? hp))).2 hd] at hb
        cases hb
/-- The reduced rules entail the rules. -/
theorem red_ent (h0 : chkE U rs = 0) : ∀ r ∈ rs, DerS (redS U rs) (fun y => y ∈ r.1) r.2 := fun r hr => by
  have h1 := rmS_ent (prs_chk h0) rs.length (by rw [List.length_map]; exact Nat.le_refl _)
  rw [show (rs.map (prS U rs)).drop rs.length = [] from List.drop_of_length_le (by rw [List.length_map]; exact Nat.le_refl _), List.append_nil] at h1
  exact derS_rules h1 (ent_prs r hr)
theorem ent_red (h0 : chkE U rs = 0) : ∀ q ∈ redS U rs, DerS rs (fun y => y ∈ q.1) q.2 := fun q hq => prs_ent h0 q (red_sub q hq)
theorem red_eqv (h0 : chkE U rs = 0) : eqvB U rs (redS U rs) = true := by
  unfold eqvB
  rw [Bool.and_eq_true, List.all_eq_true, List.all_eq_true]
  exact ⟨fun r hr => (entB_iff (red_chk h0) (chk_rules h0 r hr)).2 (red_ent h0 r hr), fun q hq => (entB_iff h0 (red_ru h0 q hq)).2 (ent_red h0 q hq)⟩
theorem red_irr (h0 : chkE U rs = 0) {k : Nat} {q : Gr} (hq : (redS U rs)[k]? = some q) : entB U ((redS U rs).eraseIdx k) q = false := by
  have h1 := rmS_irr (prs_chk h0) rs.length (by rw [List.length_map]; exact Nat.le_refl _) k q hq
  rw [show (rs.map (prS U rs)).drop rs.length = [] from List.drop_of_length_le (by rw [List.length_map]; exact Nat.le_refl _), List.append_nil] at h1
  rw [Bool.eq_false_iff]
  intro hb
  exact h1 ((entB_iff (chk_sub (red_chk h0) fun r hr => List.mem_of_mem_eraseIdx hr) (red_ru h0 q (List.mem_of_getElem? hq))).1 hb)
theorem red_min (h0 : chkE U rs = 0) {q : Gr} (hq : q ∈ redS U rs) {k : Nat} (hk : k < q.1.length) : entB U (redS U rs) (q.1.eraseIdx k, q.2) = false := by
  rw [Bool.eq_false_iff]
  intro hb
  obtain ⟨r, hr, rfl⟩ := List.mem_map.1 (red_sub q hq)
  obtain ⟨h1, h2, h3⟩ := ruE_open (chk_rules h0 r hr)
  obtain ⟨g1, g2, g3⟩ := ruE_open (red_ru h0 _ hq)
  have hsb : List.Sublist ((prS U rs r).1.eraseIdx k) (prS U rs r).1 := List.eraseIdx_sublist _ _
  have hd := (entB_iff (r := ((prS U rs r).1.eraseIdx k, (prS U rs r).2)) (red_chk h0) (ruE_mk (ss_sub g1 hsb) (fun x hx => g2 x (hsb.subset hx)) g3)).1 hb
  exact prH_min h0 h3 r.1 [] h1 h2 (fun j hj => by simp at hj) k hk (derS_rules (ent_red h0) hd)
end
end Go.Proofs.Ytedohggbpmcehaa

/- removePremises: the rules without superfluous premises. Bounds on sizes alone. -/
namespace Go.Proofs.Ytedohggbpmcehaa
open Go.RowKit
set_option maxRecDepth 100000
set_option maxHeartbeats 1600000

def sliceLen : Option Value → Nat
  | some (.slice _ n _) => n
  | _ => 0
theorem undrewB {B : Nat} {w w' : World} (h : Below B w.drew w') : Below B w w' := ⟨h.os, h.tape, h.output, h.size, h.block⟩
/-- A box that is made behind the call. -/
theorem bw_late {wr w2 : World} {vb : Value} (v2 : Value) {p : List Nat} (q : Ow 3 wr.drew.heap.size wr.drew w2 vb (ints p)) :
    Hid (Below wr.heap.size wr w2) ∧ Hid (Below wr.heap.size wr (w2.alloc (.cells #[.slice none 0 0, .slice none 0 0] 90))) ∧ Hid (Below wr.heap.size wr (w2.alloc (.cells #[vb, v2] 90))) ∧ Hid (AftB wr (w2.alloc (.cells #[vb, v2] 90)) w2.heap.size vb v2 p) := by
  have b : Below wr.heap.size wr w2 := undrewB q.bel
  have o : w2.ownsRow wr.heap.size 3 1 vb (ints p).length (ints p) := q.own
  rw [ints_length] at o
  have h (o : Obj) : Below wr.heap.size wr (w2.alloc o) := b.trans ((bel_alloc w2 o).mono b.size)
  exact ⟨b, h _, h _, h _, heap_alloc_new w2 _, b.size, wr.heap.size, Nat.le_refl _, own_same o fun k hk => (bel_alloc w2 _).block k (own_lt o hk)⟩
/-- A box that is made ahead of the call. -/
theorem bw_early {wr w2 : World} {vb : Value} (v2 : Value) {p : List Nat} (q : Ow 3 (wr.alloc (.cells #[.slice none 0 0, .slice none 0 0] 90)).drew.heap.size (wr.alloc (.cells #[.slice none 0 0, .slice none 0 0] 90)).drew w2 vb (ints p)) :
    Hid (Below wr.heap.size wr w2) ∧ ((w2.cell? ⟨wr.heap.size, 0, none⟩ = some (.slice none 0 0) ∧ w2.cell? ⟨wr.heap.size, 1, none⟩ = some (.slice none 0 0)) ∧ (w2.frozen? ⟨wr.heap.size, 0, none⟩ = false ∧ w2.frozen? ⟨wr.heap.size, 1, none⟩ = false)) ∧
      Hid (Below wr.heap.size wr ((w2.setCell ⟨wr.heap.size, 0, none⟩ vb).setCell ⟨wr.heap.size, 1, none⟩ v2)) ∧ Hid (AftB wr ((w2.setCell ⟨wr.heap.size, 0, none⟩ vb).setCell ⟨wr.heap.size, 1, none⟩ v2) wr.heap.size vb v2 p) := by
  have b : Below (wr.alloc (.cells #[.slice none 0 0, .slice none 0 0] 90)).heap.size (wr.alloc (.cells #[.slice none 0 0, .slice none 0 0] 90)) w2 := undrewB q.bel
  have o : w2.ownsRow (wr.alloc (.cells #[.slice none 0 0, .slice none 0 0] 90)).heap.size 3 1 vb (ints p).length (ints p) := q.own
  rw [ints_length] at o
  have h0 : (wr.alloc (.cells #[.slice none 0 0, .slice none 0 0] 90)).heap[wr.heap.size]? = some (.cells [.slice none 0 0, .slice none 0 0].toArray 90 (0, 0)) := heap_alloc_new wr _
  have h1 := (b.block _ (lt_of_block h0)).trans h0
  have b1 := bel_alloc wr (.cells #[.slice none 0 0, .slice none 0 0] 90)
  have b2 := b1.trans (b.mono b1.size)
  have ho : ∀ g, g ≠ wr.heap.size → ((w2.setCell ⟨wr.heap.size, 0, none⟩ vb).setCell ⟨wr.heap.size, 1, none⟩ v2).heap[g]? = w2.heap[g]? := fun g hg => (set_other hg).trans (set_other hg)
  have b3 : Below wr.heap.size wr ((w2.setCell ⟨wr.heap.size, 0, none⟩ vb).setCell ⟨wr.heap.size, 1, none⟩ v2) := ⟨b2.os, b2.tape, b2.output, by simpa using b2.size, fun k hk => (ho k (by omega)).trans (b2.block k hk)⟩
  exact ⟨b2, ⟨⟨blk_cell h1 (j := 0) rfl, blk_cell h1 (j := 1) rfl⟩, blk_free h1 0, blk_free h1 1⟩, b3, b3, blk_setCell (k := 1) (u := v2) (blk_setCell (k := 0) (u := vb) h1), Nat.le_refl _, _, b1.size, own_same o fun k hk => ho k (by have := (o.lt k hk).1; simp at this; omega)⟩
theorem remP_any (B0 n : Nat) (R : List Hrl) (ao : Option Addr) (m9 cap : Nat) (w : World) (hco : CoR B0 w (.slice ao m9 cap) R) (hok : RulesOk n R) (hn : n ≤ 1000000) (hm : m9 ≤ 1000000) (hl : ∀ z ∈ R, z.1.length ≤ 1000000) :
    Calls Try.prog 58 #[.int .i64 n, .slice ao m9 cap] w fun e w' => ∃ (oo : Option Addr) (oc : Nat), e = .returned (.slice oo m9 oc) ∧ CoR 0 w' (.slice oo m9 oc) (R.map (prN R)) ∧ Below w.heap.size w w' := by
  have hmR : m9 = R.length := by
    obtain ⟨l, p1, p2⟩ := hco
    have := p1.cut
    rw [this.1, p2.1]
  have hm9 : m9 ≤ 9223372036854775807 := by omega
  have hR : ∀ z ∈ R, (∀ y ∈ z.1, y < n) ∧ ∀ y ∈ z.2, y < n := fun z hz => by
    obtain ⟨i, hi⟩ := List.getElem?_of_mem hz
    exact (hok i z hi).2
  obtain ⟨i0, hi, hz0, hz1, hz2⟩ := info_parts ruleE.info
  have HNC : Hid (Calls Try.prog 46 #[.int .i64 n, .slice ao m9 cap] w fun e w' => ∃ c, e = .returned (.pointer (some ⟨c, 0, none⟩)) ∧ (∀ (g : Nat) (rc : Nat) (w2 : World), w2.ownsRow w'.heap.size 90 2 (.slice (some ⟨g, 0, none⟩) 0 rc) 0 [] → w'.grownBy w2 none → RpI c n R w w' (some ⟨g, 0, none⟩) 0 rc [] [] [] [] w2) ∧ w.heap.size ≤ w'.heap.size) := hid_of ((new_any B0 n R ao m9 cap w hco hok hn hm).mono (by
    rintro e w3 ⟨c, rfl, _, V, S, n1, n2, n3, _⟩
    refine ⟨c, rfl, fun g rc w2 ho hg => ?_, n2.size⟩
    have HO := op_made (w := w3) ho hg
    have hb := HO.bel
    exact ⟨[], 0, V, S, n1.at hb, Nat.le_refl _, n2.trans (hb.mono n2.size), n3, fun i v hv g hg => ((n1.ai i v hv).2 g hg).1, hb.size, HO.own, fun g2 hg2 hs => by have := n1.sz g2 hs; have := (ho.lt g2 hg2).1; omega, rfl, fun i t q ht => (by simp at ht), fun x hx => (by cases hx)⟩))
  have HRow : Hid (∀ k wz, k < m9 → Below w.heap.size w wz → ∃ g o a1 n1 d1 a2 n2 d2 z, ao = some ⟨g, o, none⟩ ∧ R[k]? = some z ∧ wz.cell? ⟨g, o + k * 2, none⟩ = some (.slice a1 n1 d1) ∧ wz.cell? ⟨g, o + k * 2 + 1, none⟩ = some (.slice a2 n2 d2) ∧ n1 = z.1.length ∧ n2 = z.2.length ∧
      (w.ownsRow B0 3 1 (.slice a1 n1 d1) z.1.length (ints z.1) ∧ w.ownsRow B0 3 1 (.slice a2 n2 d2) z.2.length (ints z.2))) := hid_of (fun k wz hk hb => by
    obtain ⟨l, p1, p2⟩ := hco
    have hcut := p1.cut
    have hlR := p2.1
    obtain ⟨t, ht⟩ : ∃ t, l[k]? = some t := ⟨_, List.getElem?_eq_getElem (by omega)⟩
    obtain ⟨z, hz⟩ : ∃ z, R[k]? = some z := ⟨_, List.getElem?_eq_getElem (by omega)⟩
    obtain ⟨g, o, e, c0, c1⟩ := (p1.at hb).get ht
    obtain ⟨o1, o2⟩ := p2.2 k t z ht hz
    obtain ⟨t1, t2⟩ := t
    obtain ⟨a1, d1, rfl⟩ : ∃ a d, t1 = .slice a z.1.length d := own_shape o1
    obtain ⟨a2, d2, rfl⟩ : ∃ a d, t2 = .slice a z.2.length d := own_shape o2
    exact ⟨g, o, a1, _, d1, a2, _, d2, z, e, hz, c0, c1, rfl, rfl, o1, o2⟩)
  have HMR := hid_of hmR
  have HRL := hid_of hl
  have HRN := hid_of hR
  clear hco hok hR hl hmR
  go_enter Try.func58, Try.ntmps58
  go_wp2_with (first
    | (go_at_call 46; ((with_reducible refine (HNC.out).mono ?_); (rintro e w8 ⟨c, rfl, q1, q2⟩)); have R8 := hid_of q1; have Z8 := hid_of q2; clear q1 q2)
    | (at_make; (refine wpList_make_own _ rfl _ _ 71 rfl w8.heap.size 90 i0 (.agg #[.slice none 0 0, .slice none 0 0]) 2 Try.underlying71 hi hz0 hz1 .i64 .i64 _ m9 rfl rfl rfl (by rw [hz2]; omega) (by unfold maxLen; omega) (Nat.le_refl _) ?_); intro w2 hown hgrow; have HO := hid_of (R8.out _ _ w2 hown hgrow); clear hown hgrow))
  go_loopw [6, 8, 9, 10, 19] (fun ov jv kv bv iv wz => ∃ (k : Nat) (oo : Option Addr) (oc : Nat) (L : List PV) (v1 v2 v3 : Value), ov = .slice oo k oc ∧ jv = v1 ∧ kv = v2 ∧ bv = v3 ∧ k ≤ m9 ∧ iv = .int .i64 k ∧ Hid (L.length = k) ∧ Hid (RpI c n R w w8 oo k oc L L ((R.take k).map (prN R)) [] wz)) (fun _ _ _ _ iv _ => m9 - (intOf iv).toNat)
  case atStart => exact ⟨0, _, _, [], _, _, _, rfl, rfl, rfl, rfl, Nat.zero_le _, rfl, hid_of rfl, HO⟩
  case round =>
    obtain ⟨k, oo, oc, L, x1, x2, x3, rfl, rfl, rfl, rfl, hk, rfl, hll, hri⟩ := hrel
    by_cases hlt : k < m9
    · have hd : decide (k < m9) = true := by simp; omega
      obtain ⟨g, o, a1, n1, d1, a2, n2, d2, z, rfl, hz, c0, c1, hn1, hn2, ho1, ho2⟩ := HRow.out k wr hlt hri.out.bel
      have HZ := hid_of hz
      have HN1 := hid_of hn1
      have hn16 : n1 ≤ 1000000 := by have := HRL.out z (List.mem_of_getElem? hz); omega
      have J0 : Hid (RpI c n R w w8 oo k oc L (L ++ [(.slice a1 n1 d1, .slice a2 n2 d2)]) ((R.take k).map (prN R) ++ [z]) [(wr.heap.size, (.slice a1 n1 d1, .slice a2 n2 d2))] (wr.alloc (.cells #[.slice a1 n1 d1, .slice a2 n2 d2] 90))) := hid_of ((hri.out.pushIn ho1 ho2).newbox (bel_alloc _ _) (heap_alloc_new _ _) (Nat.le_refl _))
      clear hz hn1 hn2 ho1 ho2
      obtain ⟨F, hF⟩ : ∃ F, F = prG R z.2 [] z.1 := ⟨_, rfl⟩
      have HF := hid_of hF
      clear hF
      obtain ⟨bt, hbt⟩ : ∃ bt, bt = wr.heap.size := ⟨_, rfl⟩
      have HBT := hid_of hbt
      clear hbt
      go_wp2
      rw [← HBT.out] at J0 ⊢
      go_loopw [9, 10] (fun kv bv wq => ∃ (d t : List Nat) (k2 mp : Nat) (a : Option Addr) (c1 : Nat) (v : Value), kv = .int .i64 k2 ∧ bv = v ∧ k2 ≤ mp ∧ mp ≤ 1000000 ∧ Hid (k2 = d.length ∧ mp = d.length + t.length) ∧ Hid (prG R z.2 d t = F) ∧ Hid (∀ y ∈ d ++ t, y < n) ∧ Hid (RpI c n R w w8 oo k oc L (L ++ [(.slice a mp c1, .slice a2 n2 d2)]) ((R.take k).map (prN R) ++ [(d ++ t, z.2)]) [(bt, (.slice a mp c1, .slice a2 n2 d2))] wq)) (fun kv _ wq => sliceLen (wq.cell? ⟨bt, 0, none⟩) - (intOf kv).toNat)
      case atStart => exact ⟨[], z.1, 0, n1, a1, d1, _, rfl, rfl, Nat.zero_le _, hn16, hid_of ⟨rfl, by rw [HN1.out]; simp⟩, hid_of HF.out.symm, hid_of (fun y hy => (HRN.out z (List.mem_of_getElem? HZ.out)).1 y hy), J0⟩
      case round =>
        obtain ⟨d, t, k2, mp, a, c1, v, rfl, rfl, hk2, hmp, hlen, hpr, hyn, hrj⟩ := hrel
        obtain ⟨_, _, _, _, e1, e2, ⟨b0, b1⟩, ⟨f0, f1⟩, hbs, HKB, HWO⟩ := rp_in hrj.out (by rw [List.length_append]; have := hlen.out; omega)
        by_cases hlt2 : k2 < mp
        · have hd2 : decide (k2 < mp) = true := by simp; omega
          have HC : Hid (∀ W, Below wr.heap.size wr W → Calls Try.prog 76 #[.slice a mp c1, .int .i64 k2] W fun e w2 => ∃ bo bc, e = .returned (.slice bo (mp - 1) bc) ∧ Ow 3 W.heap.size W w2 (.slice bo (mp - 1) bc) (ints ((d ++ t).eraseIdx k2))) := hid_of (fun W hW => by
            have := HWO.out k2 W (by rw [List.length_append]; have := hlen.out; omega) hW
            rw [show (d ++ t).length = mp by rw [List.length_append]; have := hlen.out; omega] at this
            exact this)
          cases t with
          | nil => exact absurd hlen.out (by simp; omega)
          | cons x t =>
          have HER : Hid ((d ++ x :: t).eraseIdx k2 = d ++ t) := hid_of (by rw [hlen.out.1, List.eraseIdx_append_of_length_le (Nat.le_refl _), Nat.sub_self]; rfl)
          obtain ⟨b, hb⟩ : ∃ b, b = entD R off0 ((d ++ x :: t).eraseIdx k2, z.2) := ⟨_, rfl⟩
          have HB := hid_of hb
          clear hb
          have HYN : Hid (∀ y ∈ (d ++ x :: t).eraseIdx k2, y < n) := hid_of (fun y hy => hyn.out y (List.mem_of_mem_eraseIdx hy))
          have HCC : Hid (∀ y ∈ z.2, y < n) := hid_of (HRN.out z (List.mem_of_getElem? HZ.out)).2
          have K0 : Hid (Below wr.heap.size wr wr.drew) := hid_of (Below.refl _ _).drew
          have K4 : Hid (Below wr.heap.size wr (wr.alloc (.cells #[.slice none 0 0, .slice none 0 0] 90)).drew) := hid_of (bel_alloc _ _).drew
          clear e1 e2 HWO
          go_wp2
          go_region_held3 (fun X => X.cell? ⟨bt, 0, none⟩ = some (.slice a mp c1) ∧ X.cell? ⟨bt, 1, none⟩ = some (.slice a2 n2 d2)) (exact HKB.out _ (Hid.out (by with_reducible assumption))) (first
            | (go_at_call 76; ((with_reducible refine (HC.out wr.drew K0.out).mono ?_); (rintro ee w2 ⟨bo, bc, rfl, q1⟩)); obtain ⟨K1, K2, K3, K9⟩ := bw_late (.slice a2 n2 d2) q1; clear q1)
            | (go_at_call 76; ((with_reducible refine (HC.out _ K4.out).mono ?_); (rintro ee w2 ⟨bo, bc, rfl, q1⟩)); obtain ⟨K1, ⟨⟨s0, s1⟩, s2, s3⟩, K3, K9⟩ := bw_early (.slice a2 n2 d2) q1; clear q1))
          · generalize w2.alloc (.cells #[.slice bo (mp - 1) bc, .slice a2 n2 d2] 90) = wf at *
            generalize w2.heap.size = bw at *
            obtain ⟨⟨g0, g1⟩, HE⟩ := rp_ent hrj.out K9.out HYN.out HCC.out hn
            clear K9
            cases b
            · rw [← HB.out] at HE
              have HNX : Hid (prG R z.2 (d ++ [x]) t = F) := hid_of (by rw [← hpr.out, prG_no (HER.out ▸ HB.out.symm)])
              go_wp2_with (go_at_call 52; ((with_reducible refine (HE.out).mono ?_); (rintro ee w3 ⟨rfl, J3, ⟨m0, m1⟩, ⟨m2, m3⟩, m4, m5⟩)))
              go_roundw
              case rel => exact ⟨d ++ [x], t, k2 + 1, mp, a, c1, _, by go_num, rfl, by omega, by omega, hid_of ⟨by rw [List.length_append, List.length_singleton, hlen.out.1], by have := hlen.out.2; simp only [List.length_cons, List.length_append, List.length_nil] at this ⊢; omega⟩, HNX, hid_of (by rw [List.append_assoc]; exact hyn.out), hid_of (by rw [List.append_assoc]; exact J3.out.pop (by simp))⟩
              case measure => simp [intOf, m2, b0, sliceLen]; omega
            · rw [← HB.out] at HE
              have HNX : Hid (prG R z.2 d t = F) := hid_of (by rw [← hpr.out, prG_yes (HER.out ▸ HB.out.symm)])
              go_wp2_with (go_at_call 52; ((with_reducible refine (HE.out).mono ?_); (rintro ee w3 ⟨rfl, J3, ⟨m0, m1⟩, ⟨m2, m3⟩, m4, m5⟩)))
              have JN := hid_of (J3.out.store (bt := bt) (v1 := .slice a mp c1) (v2 := .slice a2 n2 d2) (u1 := .slice bo (mp - 1) bc) (u2 := .slice a2 n2 d2) (by simp) Z8.out)
              have CN := (JN.out.cells (bt := bt) (v1 := .slice bo (mp - 1) bc) (v2 := .slice a2 n2 d2) (by simp)).1.1
              go_roundw
              case rel => exact ⟨d, t, k2, mp - 1, bo, bc, _, rfl, rfl, by omega, by omega, hid_of ⟨hlen.out.1, by have := hlen.out.2; simp only [List.length_cons] at this; omega⟩, HNX, hid_of (fun y hy => hyn.out y (by rcases List.mem_append.1 hy with h | h; exact List.mem_append_left _ h; exact List.mem_append_right _ (List.mem_cons_of_mem _ h))), hid_of (by rw [← HER.out]; exact JN.out.mid (fun _ h => h))⟩
              case measure => simp [intOf, b0, CN, sliceLen]; omega
          · generalize (w2.setCell ⟨wr.heap.size, 0, none⟩ (.slice bo (mp - 1) bc)).setCell ⟨wr.heap.size, 1, none⟩ (.slice a2 n2 d2) = wf at *
            generalize wr.heap.size = bw at *
            obtain ⟨⟨g0, g1⟩, HE⟩ := rp_ent hrj.out K9.out HYN.out HCC.out hn
            clear K9
            cases b
            · rw [← HB.out] at HE
              have HNX : Hid (prG R z.2 (d ++ [x]) t = F) := hid_of (by rw [← hpr.out, prG_no (HER.out ▸ HB.out.symm)])
              go_wp2_with (go_at_call 52; ((with_reducible refine (HE.out).mono ?_); (rintro ee w3 ⟨rfl, J3, ⟨m0, m1⟩, ⟨m2, m3⟩, m4, m5⟩)))
              go_roundw
              case rel => exact ⟨d ++ [x], t, k2 + 1, mp, a, c1, _, by go_num, rfl, by omega, by omega, hid_of ⟨by rw [List.length_append, List.length_singleton, hlen.out.1], by have := hlen.out.2; simp only [List.length_cons, List.length_append, List.length_nil] at this ⊢; omega⟩, HNX, hid_of (by rw [List.append_assoc]; exact hyn.out), hid_of (by rw [List.append_assoc]; exact J3.out.pop (by simp))⟩
              case measure => simp [intOf, m2, b0, sliceLen]; omega
            · rw [← HB.out] at HE
              have HNX : Hid (prG R z.2 d t = F) := hid_of (by rw [← hpr.out, prG_yes (HER.out ▸ HB.out.symm)])
              go_wp2_with (go_at_call 52; ((with_reducible refine (HE.out).mono ?_); (rintro ee w3 ⟨rfl, J3, ⟨m0, m1⟩, ⟨m2, m3⟩, m4, m5⟩)))
              have JN := hid_of (J3.out.store (bt := bt) (v1 := .slice a mp c1) (v2 := .slice a2 n2 d2) (u1 := .slice bo (mp - 1) bc) (u2 := .slice a2 n2 d2) (by simp) Z8.out)
              have CN := (JN.out.cells (bt := bt) (v1 := .slice bo (mp - 1) bc) (v2 := .slice a2 n2 d2) (by simp)).1.1
              go_roundw
              case rel => exact ⟨d, t, k2, mp - 1, bo, bc, _, rfl, rfl, by omega, by omega, hid_of ⟨hlen.out.1, by have := hlen.out.2; simp only [List.length_cons] at this; omega⟩, HNX, hid_of (fun y hy => hyn.out y (by rcases List.mem_append.1 hy with h | h; exact List.mem_append_left _ h; exact List.mem_append_right _ (List.mem_cons_of_mem _ h))), hid_of (by rw [← HER.out]; exact JN.out.mid (fun _ h => h))⟩
              case measure => simp [intOf, b0, CN, sliceLen]; omega
        · have hd2 : decide (k2 < mp) = false := by simp; omega
          have HTN : Hid (t = []) := hid_of (by have := hlen.out; exact List.eq_nil_of_length_eq_zero (by omega))
          have HDF : Hid (d = F) := hid_of (by have := hpr.out; rw [HTN.out, prG] at this; exact this)
          have HZF : Hid ((F, z.2) = prN R z) := hid_of (by rw [HF.out]; rfl)
          have HRW := hid_of (rp_row hrj.out (.cells #[.slice a mp c1, .slice a2 n2 d2] 90))
          have HTK : Hid ((R.take (k + 1)).map (prN R) = (R.take k).map (prN R) ++ [(d ++ t, z.2)]) := hid_of (by rw [take_snoc_get HZ.out, List.map_append, List.map_singleton, ← HZF.out, HTN.out, List.append_nil, HDF.out])
          clear e1 e2 HWO
          go_wp2_with (at_builtin; (refine wpList_pr2 ruleE rfl (.tmp 41) (.tmp 43) rfl (v := .slice oo k oc) (l := L) rfl HRW.out.1 HRW.out.2 (vx := .slice (some ⟨wr.heap.size, 0, none⟩) 1 1) (m := [(.slice a mp c1, .slice a2 n2 d2)]) rfl prd_new (by intro u hu; simp [prs] at hu; rcases hu with rfl | rfl <;> rfl) (by rw [hll.out]; simp only [List.length_singleton]; omega) (by rw [hll.out]; simp only [List.length_singleton]; omega) ?_); intro ao2 n3 cap2 w5 e1 e2 e3 e4; have HN3 : Hid (n3 = k + 1) := hid_of (by rw [hll.out] at e1; simpa using e1); have R5 := hid_of (hrj.out.app Z8.out e1 e2 e3 e4); clear e1 e2 e3 e4)
          have EN := HN3.out
          subst EN
          go_roundw
          case rel => exact ⟨k + 1, ao2, cap2, L ++ [(.slice a mp c1, .slice a2 n2 d2)], _, _, _, rfl, rfl, rfl, rfl, by omega, by go_num, hid_of (by rw [List.length_append, hll.out]; rfl), hid_of (by rw [HTK.out]; exact R5.out)⟩
          case measure => simp [intOf]; omega
    · have hd : decide (k < m9) = false := by simp; omega
      obtain rfl : m9 = k := by omega
      have HF : Hid (CoR 0 wr (.slice oo m9 oc) (R.map (prN R)) ∧ Below w.heap.size w wr) := hid_of (by
        have h := hri.out
        have e := HMR.out
        rw [e, List.take_length] at h
        have h2 := rp_end h
        rw [← e] at h2
        exact h2)
      go_wp2
      go_ret
      exact ⟨oo, oc, rfl, HF.out⟩
end Go.Proofs.Ytedohggbpmcehaa

/- Reduce. Bounds on sizes alone. -/
namespace Go.Proofs.Ytedohggbpmcehaa
open Go.RowKit
set_option maxRecDepth 100000
set_option maxHeartbeats 1600000

/-- append of pairs, inside a region that draws its order. -/
theorem step_pr {P : Program} {S E : TypeId} {z : Value} {eb : Nat} (T : Elem2 P S E z eb) {ops : Array Oper} {o : Oper} {a : Act} {w : World} {K : Act → World → Prop} {Q : Exit → Act → World → Prop} {F : Prop} (hgd : o.guard = none) (s x : Operand)
    (ho : o.op = .call { callee := .builtin .append, args := #[s, x], argTypes := #[S, S] })
    {B : Nat} {w0 : World} {v : Value} {l : List PV} (hv : a.eval s = v) (H : OP E B w0 w v l) {vx : Value} {m : List PV} (hx : a.eval x = vx) (L : PRd w vx m) (h1 : ∀ u ∈ prs m, u.oneCell' = true) (hl : (l.length + m.length) * eb ≤ 140737488355328) (hl2 : l.length + m.length ≤ 140737488355328)
    (h : ∀ (ao : Option Addr) (n cap : Nat) (w' : World), n = l.length + m.length → OP E B w0 w' (.slice ao n cap) (l ++ m) → w.grownBy w' v.ownBlock → K (a.put o.dst (.slice ao n cap)) w') :
    if Region.wanted o (yielded ops a.tmps) = true then Oper.wp P o a w K Q else F := by
  obtain ⟨i0, hi, hz0, hz1, hz2⟩ := info_parts T.info
  refine step_append_src _ hgd s x S S ho B E i0 z 2 eb T.und hi hz0 hz1 hz2 T.two (by decide) v l.length (prs l) hv H.own vx m.length (prs m) hx (L.src T h1) (by unfold maxLen; omega) (by omega) H.size ?_
  intro v2 w2 hown hg _ _
  have H2 := H.app (m := m) hown rfl hg
  obtain ⟨ao, cap, rfl⟩ := own_shapeP hown
  exact h ao _ cap w2 rfl H2 hg
/-- A row behind an append onto a row of another type. -/
theorem own_grown2 {W W' : World} {E B B2 e2 s2 n n2 : Nat} {v v2 : Value} {xs xs2 : List Value} (ho : W.ownsRow B E 1 v n xs) (ho2 : W.ownsRow B2 e2 s2 v2 n2 xs2) (he : E ≠ e2) (hg : W.grownBy W' v2.ownBlock) : W'.ownsRow B E 1 v n xs :=
  own_same ho fun k hk => hg.block k (own_lt ho hk) (fun h => by
    obtain ⟨c1, h1⟩ := own_blk ho hk
    obtain ⟨c2, h2⟩ := own_blkS ho2 h.symm
    rw [h1] at h2
    simp only [Option.some.injEq, Obj.cells.injEq] at h2
    exact he h2.2.1)
/-- The rules so far, in names. -/
structure RedI (w wz : World) (v : Value) (k : Nat) (G : List Gr) : Prop where
  ex : ∃ l : List PV, OP 41 w.heap.size w wz v l ∧ l.length = k ∧ ∀ (i : Nat) (t : PV) (r : Gr), l[i]? = some t → G[i]? = some r → wz.ownsRow 0 9 1 t.1 r.1.length (ss r.1) ∧ t.2 = .string (ba r.2)
theorem RedI.at {w wz w' : World} {v : Value} {k : Nat} {G : List Gr} (h : RedI w wz v k G) (b : Below wz.heap.size wz w') : RedI w w' v k G := by
  obtain ⟨l, h1, h2, h3⟩ := h.ex
  exact ⟨l, h1.later b, h2, fun i t r ht hr => ⟨own_same (h3 i t r ht hr).1 fun k hk => b.block k (own_lt (h3 i t r ht hr).1 hk), (h3 i t r ht hr).2⟩⟩
theorem RedI.ru {w wz : World} {v : Value} {k : Nat} {G : List Gr} (h : RedI w wz v k G) (hk : k = G.length) : RuR wz v G ∧ Below w.heap.size w wz := by
  obtain ⟨l, h1, h2, h3⟩ := h.ex
  exact ⟨⟨l, h1.prd, by omega, fun i t r ht hr => ⟨own_rd (by have := (h3 i t r ht hr).1; rwa [show r.1.length = (ss r.1).length by simp [ss]] at this), (h3 i t r ht hr).2⟩⟩, h1.bel⟩
theorem ix_nmF {U s : List Str} {L : List Nat} (h : Ix U s L) : nmF U L = s := by
  apply List.ext_getElem?
  intro k
  unfold nmF
  rw [List.getElem?_map]
  cases hk : L[k]? with
  | none =>
    have : L.length ≤ k := List.getElem?_eq_none_iff.1 hk
    rw [h.len] at this
    rw [List.getElem?_eq_none this]; rfl
  | some i =>
    obtain ⟨x, h1, h2⟩ := h.get hk
    rw [h1]
    simp [List.getD, h2]
theorem ix_single {U : List Str} {y : Str} {L : List Nat} (h : Ix U [y] L) : ∃ j, L = [j] ∧ U[j]? = some y := by
  obtain ⟨j, L', rfl, h1, h2⟩ := h.uncons
  rw [ix_nil h2]
  exact ⟨j, rfl, h1⟩

section
variable (uo : Option Addr) (un uc : Nat) (U : List Str) (ro : Option Addr) (rn rc : Nat) (rs : List Gr) (w : World)
theorem red_err (h : InU w uo un uc U ro rn rc rs) (q : Nat) (hq : chkE U rs = q) (hq0 : q ≠ 0) :
    Calls Try.prog 33 #[.slice uo un uc, .slice ro rn rc] w fun e w' => e = .returned (.tuple #[.slice none 0 0, .int .i64 q]) ∧ Below w.heap.size w w' := by
  have t1 : ((q : Int) != 0) = true := by simp; omega
  have t2 : ((q : Int) == 0) = false := by simp; omega
  have HC := hid_of (cmp_err h hq hq0)
  clear h hq hq0
  go_enter Try.func33, Try.ntmps33
  go_wp2_with (go_at_call 44; ((with_reducible refine (HC.out).mono ?_); (rintro e w1 ⟨rfl, h5⟩)); have B1 := hid_of h5; clear h5)
  go_ret2
  exact ⟨rfl, B1.out⟩
/-- What a round reads. -/
def RedR (w : World) (uo : Option Addr) (un uc : Nat) (oo : Option Addr) (G : List Gr) (k : Nat) (wz : World) : Prop :=
  ∃ g o a1 n1 d1 gc d2 j bx gu ou r, oo = some ⟨g, o, none⟩ ∧ uo = some ⟨gu, ou, none⟩ ∧ G[k]? = some r ∧ bx = ba r.2 ∧ j < un ∧ wz.cell? ⟨g, o + k * 2, none⟩ = some (.slice a1 n1 d1) ∧ wz.cell? ⟨g, o + k * 2 + 1, none⟩ = some (.slice (some ⟨gc, 0, none⟩) 1 d2) ∧ 1 ≤ d2 ∧ un ≤ uc ∧ n1 = r.1.length ∧ gu < w.heap.size ∧
    Hid (∀ W, Below wz.heap.size wz W → W.cell? ⟨gc, 0, none⟩ = some (.int .i64 j) ∧ W.cell? ⟨gu, ou + j, none⟩ = some (.string bx) ∧ ∃ cs m, W.heap[gc]? = some (.cells cs 3 m)) ∧
    Hid (∀ W, Below wz.heap.size wz W → Calls Try.prog 48 #[.slice uo un uc, .slice a1 n1 d1] W fun e w5 => ∃ ro2 rc2, e = .returned (.slice ro2 n1 rc2) ∧ Ow 9 W.heap.size W w5 (.slice ro2 n1 rc2) (ss r.1))
theorem redr_of {G : List Gr} {Z : List Hrl} {L : List PV} {oo : Option Addr} {m oc : Nat} {w2 w3 : World} (hUw : Rd w (.slice uo un uc) (ss U)) (hw : Below w.heap.size w w2) (hun : un ≤ 1000000) (hc : Cmp U G Z) (hp : CoP 0 w2 L Z) (ho : PRd w3 (.slice oo m oc) L) (hb : Below w2.heap.size w2 w3) (hl : ∀ r ∈ G, r.1.length ≤ 1000000) {k : Nat} {wz : World} (hk : k < m) (hz : Below w3.heap.size w3 wz) : RedR w uo un uc oo G k wz := by
  have hU := hUw.at hw
  have hm := ho.cut.1
  obtain ⟨t, ht⟩ : ∃ t, L[k]? = some t := ⟨_, List.getElem?_eq_getElem (by omega)⟩
  obtain ⟨z, hzz⟩ : ∃ z, Z[k]? = some z := ⟨_, List.getElem?_eq_getElem (by have := hp.len; omega)⟩
  obtain ⟨r, hr⟩ : ∃ r, G[k]? = some r := ⟨_, List.getElem?_eq_getElem (by have := hp.len; have := hc.len; omega)⟩
  obtain ⟨g, o, e, c0, c1⟩ := (ho.at hz).get ht
  obtain ⟨o1, o2⟩ := hp.at_ k t z ht hzz
  obtain ⟨x1, x2⟩ := hc.at_ k r z hr hzz
  have b2z : Below w2.heap.size w2 wz := hb.trans (hz.mono hb.size)
  have p1 := own_same o1 fun k hk => b2z.block k (own_lt o1 hk)
  have p2 := own_same o2 fun k hk => b2z.block k (own_lt o2 hk)
  obtain ⟨j, hj, hju⟩ := ix_single x2
  obtain ⟨t1, t2⟩ := t
  obtain ⟨a1, d1, rfl⟩ : ∃ a d, t1 = .slice a z.1.length d := own_shape p1
  rw [hj] at p2
  simp only at p2 c0 c1
  rcases own_shape2 p2 with ⟨_, e0⟩ | ⟨gc, d2, rfl, hgc, hd2, _⟩
  · simp at e0
  have Rz := hU.at b2z
  obtain ⟨hul, hu1, hu2, hu4⟩ := rds_open Rz
  have hjl : j < U.length := (List.getElem?_eq_some_iff.1 hju).1
  obtain ⟨gu, ou, eu, hgu, hcu⟩ := hu4.resolve_left (fun e => by rw [e] at hjl; simp at hjl)
  obtain ⟨_, _, _, hw4⟩ := rds_open hUw
  obtain ⟨gu', ou', eu', hgw, _⟩ := hw4.resolve_left (fun e => by rw [e] at hjl; simp at hjl)
  have hgw2 : gu < w.heap.size := by rw [eu] at eu'; cases eu'; exact hgw
  obtain ⟨cu, hcu2⟩ := own_blk p2 rfl
  have cj : wz.cell? ⟨gc, 0, none⟩ = some (.int .i64 (j : Int)) := own_cell p2 (j := 0) rfl
  have n1e : z.1.length = r.1.length := x1.len
  refine ⟨g, o, a1, _, d1, gc, d2, j, _, gu, ou, r, e, eu, hr, rfl, by omega, c0, c1, hd2, hu1, n1e, hgw2, hid_of fun W hW => ⟨?_, ?_, _, _, (hW.block _ hgc).trans hcu2⟩, hid_of fun W hW => ?_⟩
  · exact (hW.cell (p := ⟨gc, 0, none⟩) hgc).trans cj
  · exact (hW.cell (p := ⟨gu, ou + j, none⟩) hgu).trans (hcu j r.2 hju)
  · have hn := nmd_any uo un uc U a1 z.1.length d1 z.1 W (Rz.at hW) ((own_rd p1).at hW) (fun i hi => x1.lt hi) (by rw [n1e]; exact hl r (List.mem_of_getElem? hr))
    rw [ix_nmF x1] at hn
    exact hn
end
end Go.Proofs.Ytedohggbpmcehaa

/- Reduce, where universe and rules are valid. Bounds on sizes alone. -/
namespace Go.Proofs.Ytedohggbpmcehaa
open Go.RowKit
set_option maxRecDepth 100000
set_option maxHeartbeats 1600000

theorem redI_app {w wr w5 w6 : World} {ro : Option Addr} {k rc : Nat} {G : List Gr} {l : List PV} {ro2 : Option Addr} {n1 rc2 : Nat} {bx : ByteArray} {r : Gr} {o : Obj} {ao : Option Addr} {n cap : Nat}
    (h1 : OP 41 w.heap.size w wr (.slice ro k rc) l) (h2 : l.length = k) (h3 : ∀ (i : Nat) (t : PV) (r : Gr), l[i]? = some t → G[i]? = some r → wr.ownsRow 0 9 1 t.1 r.1.length (ss r.1) ∧ t.2 = .string (ba r.2))
    (hb : Below wr.heap.size wr w5) (hs : w5.ownsRow 0 9 1 (.slice ro2 n1 rc2) r.1.length (ss r.1)) (hr : G[k]? = some r) (hbx : bx = ba r.2)
    (ha : OP 41 w.heap.size w w6 (.slice ao n cap) (l ++ [(.slice ro2 n1 rc2, .string bx)])) (hg : (w5.alloc o).grownBy w6 (Value.slice ro k rc).ownBlock) : RedI w w6 (.slice ao n cap) (k + 1) G := by
  have b5 := bel_alloc w5 o
  have hbo := hb.trans (b5.mono hb.size)
  have hrow := (h1.later hbo).own
  refine ⟨_, ha, by simp [h2], fun i t q ht hq => ?_⟩
  by_cases e : i < l.length
  · rw [List.getElem?_append_left e] at ht
    obtain ⟨p1, p2⟩ := h3 i t q ht hq
    exact ⟨own_grown2 (own_same p1 fun k hk => hbo.block k (own_lt p1 hk)) hrow (by decide) hg, p2⟩
  · rw [List.getElem?_append_right (by omega)] at ht
    have hi : i = l.length := by have := (List.getElem?_eq_some_iff.1 ht).1; simp at this; omega
    rw [hi, Nat.sub_self] at ht
    simp only [List.getElem?_cons_zero, Option.some.injEq] at ht
    rw [hi, h2, hr] at hq
    cases hq
    rw [← ht]
    exact ⟨own_grown2 (own_same hs fun k hk => b5.block k (own_lt hs hk)) hrow (by decide) hg, by rw [hbx]⟩
theorem sub_num {U : List Str} {rs : List Gr} {R : List Hrl} (hc : Cmp U rs R) (hl : ∀ r ∈ rs, r.1.length ≤ 1000000) : ∀ z ∈ R, z.1.length ≤ 1000000 := fun z hz => by
  obtain ⟨i, hi⟩ := List.getElem?_of_mem hz
  obtain ⟨r, hr⟩ : ∃ r, rs[i]? = some r := ⟨_, List.getElem?_eq_getElem (by have := (List.getElem?_eq_some_iff.1 hi).1; have := hc.len; omega)⟩
  rw [(hc.at_ i r z hr hi).1.len]
  exact hl r (List.mem_of_getElem? hr)
theorem red_short {U : List Str} {rs : List Gr} {m : Nat} (hl : ∀ r ∈ rs, r.1.length ≤ m) : ∀ r ∈ redS U rs, r.1.length ≤ m := fun r hr => by
  obtain ⟨q, hq, rfl⟩ := List.mem_map.1 (red_sub r hr)
  exact Nat.le_trans (prS_sub U rs q).length_le (hl q hq)

theorem red_at {wr wb w5 : World} (w : World) {v : Value} {s : List Str} (bb : Below wr.heap.size wr wb) (q : Ow 9 wb.drew.heap.size wb.drew w5 v (ss s)) (o : Obj) : Hid (Below wb.heap.size wb w5) ∧ Hid (Below wb.heap.size wb (w5.alloc o)) ∧ Hid (w5.ownsRow 0 9 1 v s.length (ss s)) ∧ Hid (Below wr.heap.size wr w5) := by
  have b : Below wb.heap.size wb w5 := undrewB q.bel
  have ho := q.own
  rw [show (ss s).length = s.length by simp [ss]] at ho
  exact ⟨b, b.trans ((bel_alloc w5 o).mono b.size), own_base ho, bb.trans (b.mono bb.size)⟩
theorem grown_cell {w5 w6 : World} {x : Option Nat} {b off : Nat} {u : Value} (hg : w5.grownBy w6 x) (hb : x ≠ some b) (hc : w5.cell? ⟨b, off, none⟩ = some u) : w6.cell? ⟨b, off, none⟩ = some u := by
  have e := hg.block b (World.block_lt_of_cell? _ _ hc) (fun h => hb h.symm)
  simp only [World.cell?] at hc ⊢
  rw [e]; exact hc
/-- Behind the append the cells that the region has read are as they were. -/
theorem red_cells {w wr wb w5 w6 : World} {o : Obj} {k rc2 bt gc gu ou j : Nat} {ro2 : Option Addr} {l : List PV} {v1 v2 u3 u4 : Value} (kb : Below wb.heap.size wb (w5.alloc o)) (hb5 : Below wr.heap.size wr w5) (bb : Below wr.heap.size wr wb) (h1 : OP 41 w.heap.size w wr (.slice ro2 k rc2) l) (hg : (w5.alloc o).grownBy w6 (Value.slice ro2 k rc2).ownBlock)
    (hs : ∀ X, Below wb.heap.size wb X → X.cell? ⟨bt, 0, none⟩ = some v1 ∧ X.cell? ⟨bt, 1, none⟩ = some v2 ∧ X.cell? ⟨gc, 0, none⟩ = some u3 ∧ X.cell? ⟨gu, ou + j, none⟩ = some u4) (hgu : gu < w.heap.size) (hbt : wr.heap.size ≤ bt) (hgc : ∀ W, Below wr.heap.size wr W → ∃ cs m, W.heap[gc]? = some (.cells cs 3 m)) :
    w6.cell? ⟨bt, 0, none⟩ = some v1 ∧ w6.cell? ⟨bt, 1, none⟩ = some v2 ∧ w6.cell? ⟨gc, 0, none⟩ = some u3 ∧ w6.cell? ⟨gu, ou + j, none⟩ = some u4 := by
  obtain ⟨c1, c2, c3, c4⟩ := hs _ kb
  have hlt := h1.own.lt
  have n1 : (Value.slice ro2 k rc2).ownBlock ≠ some bt := fun h => by have := (hlt bt h).2; omega
  have n4 : (Value.slice ro2 k rc2).ownBlock ≠ some gu := fun h => by have := (hlt gu h).1; omega
  have n3 : (Value.slice ro2 k rc2).ownBlock ≠ some gc := fun h => by
    obtain ⟨cs, m, e⟩ := hgc wr (Below.refl _ _)
    obtain ⟨cs2, e2⟩ := own_blkS h1.own h
    rw [e] at e2
    simp only [Option.some.injEq, Obj.cells.injEq] at e2
    exact absurd e2.2.1 (by decide)
  exact ⟨grown_cell hg n1 c1, grown_cell hg n1 c2, grown_cell hg n3 c3, grown_cell hg n4 c4⟩
theorem red_good (uo : Option Addr) (un uc : Nat) (U : List Str) (ro : Option Addr) (rn rc : Nat) (rs : List Gr) (w : World) (h : InU w uo un uc U ro rn rc rs) (h0 : chkE U rs = 0) :
    Calls Try.prog 33 #[.slice uo un uc, .slice ro rn rc] w fun e w' => ∃ ao m cap, e = .returned (.tuple #[.slice ao m cap, .int .i64 0]) ∧ m = (redS U rs).length ∧ RuR w' (.slice ao m cap) (redS U rs) ∧ Below w.heap.size w w' := by
  have HC := hid_of (cmp_good h h0)
  have hul := h.ul
  have hrl := h.rlen
  have hun := h.un
  have hrn := h.rn
  have HUL := hid_of hul
  have HP : Hid (∀ R ao1 cap1 w1, CoR w.heap.size w1 (.slice ao1 rn cap1) R → Cmp U rs R → Calls Try.prog 58 #[.int .i64 un, .slice ao1 rn cap1] w1 fun e w2 => ∃ oo oc, e = .returned (.slice oo rn oc) ∧ CoR 0 w2 (.slice oo rn oc) (R.map (prN R)) ∧ Below w1.heap.size w1 w2) := hid_of (fun R ao1 cap1 w1 hco hc =>
    remP_any w.heap.size un R ao1 rn cap1 w1 hco (by rw [hul]; exact cmp_ok (chk_ok h0).1 hc fun r hr => ((chk_ok h0).2 r hr).1) hun hrn (sub_num hc h.rl))
  have HQ : Hid (∀ R oo oc w2, CoR 0 w2 (.slice oo rn oc) (R.map (prN R)) → Cmp U rs R → Calls Try.prog 57 #[.int .i64 un, .slice oo rn oc] w2 fun e w3 => ∃ (oo : Option Addr) (m oc : Nat) (L : List PV), e = .returned (.slice oo m oc) ∧ m = (redS U rs).length ∧ m ≤ rn ∧ Below w2.heap.size w2 w3 ∧ (Below w.heap.size w w2 → Hid (∀ k wz, k < m → Below w3.heap.size w3 wz → RedR w uo un uc oo (redS U rs) k wz))) := hid_of (fun R oo oc w2 hco hc => by
    have hok : RulesOk un (R.map (prN R)) := by rw [hul]; exact cmp_ok (chk_ok h0).1 (prs_names h0 hc) fun r hr => (ruE_open (prs_ru h0 r hr)).1
    refine (remR_any 0 un (R.map (prN R)) oo rn oc w2 hco hok (fun z hz => by obtain ⟨i, hi⟩ := List.getElem?_of_mem hz; exact (hok i z hi).2) hun hrn).mono ?_
    rintro e w3 ⟨o2, m, c2, L, rfl, hm, hcp, hown, hb⟩
    have hr := red_names h0 hc
    have hml : m = (redS U rs).length := by rw [hm, hcp.len, hr.len]
    have hsz : w2.heap.size ≤ w3.heap.size := hb.size
    refine ⟨o2, m, c2, L, rfl, hml, by rw [hml, hrl]; exact red_len U rs, hb, fun hw => hid_of fun k wz hk hz => ?_⟩
    have ho : PRd w3 (.slice o2 m c2) L := OP.prd (E := 90) (B := w2.heap.size) (w0 := w3) ⟨hsz, Below.refl _ _, hown⟩
    exact redr_of uo un uc U w h.ru hw hun hr hcp ho hb (red_short h.rl) hk hz)
  obtain ⟨G, hG⟩ : ∃ G, G = redS U rs := ⟨_, rfl⟩
  rw [← hG] at HQ ⊢
  have hrn2 : rn ≤ 9223372036854775807 := by omega
  clear h h0 hul hrl hG
  go_enter Try.func33, Try.ntmps33
  go_wp2_with (first
    | (go_at_call 44; ((with_reducible refine (HC.out).mono ?_); (rintro e w1 ⟨R, ao1, cap1, rfl, q1, q2, q3⟩)); have C1 := hid_of q1; have O1 := hid_of q2; have B1 := hid_of q3; clear q1 q2 q3)
    | (go_at_call 58; ((with_reducible refine (HP.out R ao1 cap1 w1 O1.out C1.out).mono ?_); (rintro e w2 ⟨oo, oc, rfl, q1, q2⟩)); have O2 := hid_of q1; have B2 : Hid (Below w.heap.size w w2) := hid_of (B1.out.trans (q2.mono B1.out.size)); clear q1 q2)
    | (go_at_call 57; ((with_reducible refine (HQ.out R oo oc w2 O2.out C1.out).mono ?_); (rintro e w3 ⟨o3, m, oc3, L3, rfl, q1, hm2, q2, q3⟩)); have HM := hid_of q1; have B3 : Hid (Below w.heap.size w w3) := hid_of (B2.out.trans (q2.mono B2.out.size)); have HR := q3 B2.out; clear q1 q2 q3))
  have hm9 : m ≤ 1000000 := by omega
  go_loopw [8, 10, 28] (fun ov jv iv wz => ∃ (k : Nat) (ro2 : Option Addr) (rc2 : Nat) (v : Value), ov = .slice ro2 k rc2 ∧ jv = v ∧ k ≤ m ∧ iv = .int .i64 k ∧ Hid (RedI w3 wz (.slice ro2 k rc2) k G)) (fun _ _ iv _ => m - (intOf iv).toNat)
  case atStart => exact ⟨0, none, 0, _, rfl, rfl, Nat.zero_le _, rfl, hid_of ⟨[], op_nil 41 w3, rfl, fun i t r ht => (by simp at ht)⟩⟩
  case round =>
    obtain ⟨k, ro2, rc2, v, rfl, rfl, hk, rfl, hri⟩ := hrel
    have hbz : Hid (Below w3.heap.size w3 wr) := hid_of (by obtain ⟨l, h1, _⟩ := hri.out.ex; exact h1.bel)
    by_cases hlt : k < m
    · have hd : decide (k < m) = true := by simp; omega
      obtain ⟨g, o, a1, n1, d1, gc, d2, j, bx, gu, ou, r, rfl, rfl, hr, hbx, hj, c0, c1, hd2, huc, hn1, hgu, HS, HN⟩ := HR.out k _ hlt hbz.out
      obtain ⟨l, hl1, hl2, hl3⟩ := hri.out.ex
      have HR1 := hid_of hr
      have HBX := hid_of hbx
      have HN1 := hid_of hn1
      have H1 := hid_of hl1
      have H2 := hid_of hl2
      have H3 := hid_of hl3
      clear hr hbx hn1 hl1 hl2 hl3
      have b0 : (0 : Int) ≤ (j : Int) := by omega
      have b1 : (j : Int) < (un : Int) := by omega
      have BB := hid_of (bel_alloc wr (.cells #[.slice a1 n1 d1, .slice (some ⟨gc, 0, none⟩) 1 d2] 90))
      have HKS : Hid (∀ X, Below (wr.alloc (.cells #[.slice a1 n1 d1, .slice (some ⟨gc, 0, none⟩) 1 d2] 90)).heap.size (wr.alloc (.cells #[.slice a1 n1 d1, .slice (some ⟨gc, 0, none⟩) 1 d2] 90)) X → X.cell? ⟨wr.heap.size, 0, none⟩ = some (.slice a1 n1 d1) ∧ X.cell? ⟨wr.heap.size, 1, none⟩ = some (.slice (some ⟨gc, 0, none⟩) 1 d2) ∧ X.cell? ⟨gc, 0, none⟩ = some (.int .i64 j) ∧ X.cell? ⟨gu, ou + j, none⟩ = some (.string bx)) := hid_of (fun X hX => by
        have e0 : (wr.alloc (.cells #[.slice a1 n1 d1, .slice (some ⟨gc, 0, none⟩) 1 d2] 90)).heap[wr.heap.size]? = some (.cells [.slice a1 n1 d1, .slice (some ⟨gc, 0, none⟩) 1 d2].toArray 90 (0, 0)) := heap_alloc_new wr _
        have e := (hX.block _ (lt_of_block e0)).trans e0
        have s := HS.out X (BB.out.trans (hX.mono BB.out.size))
        exact ⟨blk_cell e (j := 0) rfl, blk_cell e (j := 1) rfl, s.1, s.2.1⟩)
      have K0 : Hid (Below (wr.alloc (.cells #[.slice a1 n1 d1, .slice (some ⟨gc, 0, none⟩) 1 d2] 90)).heap.size (wr.alloc (.cells #[.slice a1 n1 d1, .slice (some ⟨gc, 0, none⟩) 1 d2] 90)) (wr.alloc (.cells #[.slice a1 n1 d1, .slice (some ⟨gc, 0, none⟩) 1 d2] 90)).drew) := hid_of (Below.refl _ _).drew
      generalize hwb : wr.alloc (.cells #[.slice a1 n1 d1, .slice (some ⟨gc, 0, none⟩) 1 d2] 90) = wb at K0 HKS BB
      have HWB := hid_of hwb
      clear hwb
      go_wp2
      rw [HWB.out]
      go_region_held3 (fun X => X.cell? ⟨wr.heap.size, 0, none⟩ = some (.slice a1 n1 d1) ∧ X.cell? ⟨wr.heap.size, 1, none⟩ = some (.slice (some ⟨gc, 0, none⟩) 1 d2) ∧ X.cell? ⟨gc, 0, none⟩ = some (.int .i64 j) ∧ X.cell? ⟨gu, ou + j, none⟩ = some (.string bx)) (first | exact HKS.out _ (Hid.out (by with_reducible assumption)) | with_reducible exact K7.out) (first
        | (go_at_call 48; ((with_reducible refine (HN.out wb.drew (BB.out.trans (K0.out.mono BB.out.size))).mono ?_); (rintro ee w5 ⟨ro5, rc5, rfl, q1⟩)); obtain ⟨K5, K6, HS5, HB5⟩ := red_at w BB.out q1 (.cells #[.slice ro5 n1 rc5, .string bx] 41); have HO5 := hid_of (H1.out.later (HB5.out.trans ((bel_alloc w5 (.cells #[.slice ro5 n1 rc5, .string bx] 41)).mono HB5.out.size))); clear q1)
        | (refine step_pr ruE2 (by rfl) (.tmp 32) (.tmp 45) (by rfl) (v := .slice ro2 k rc2) (l := l) (by kernel_rfl) HO5.out (vx := .slice (some ⟨w5.heap.size, 0, none⟩) 1 1) (m := [(.slice ro5 n1 rc5, .string bx)]) (by kernel_rfl) prd_new (by intro u hu; simp [prs] at hu; rcases hu with rfl | rfl <;> rfl) (by rw [H2.out]; simp only [List.length_singleton]; omega) (by rw [H2.out]; simp only [List.length_singleton]; omega) ?_; intro ao6 n6 cap6 w6 e1 e2 e3; have HN6 : Hid (n6 = k + 1) := hid_of (by rw [H2.out] at e1; simpa using e1); have R6 := hid_of (redI_app H1.out H2.out H3.out HB5.out HS5.out HR1.out HBX.out e2 e3); have K7 := hid_of (red_cells K6.out HB5.out BB.out H1.out e3 HKS.out (Nat.lt_of_lt_of_le hgu B3.out.size) (Nat.le_refl _) (fun W hW => (HS.out W hW).2.2)); clear e1 e2 e3))
      have EN := HN6.out
      subst EN
      go_wp2
      go_roundw
      case rel => exact ⟨k + 1, ao6, cap6, _, rfl, rfl, by omega, by go_num, R6⟩
      case measure => simp [intOf]; omega
    · have hd : decide (k < m) = false := by simp; omega
      obtain rfl : m = k := by omega
      have HF : Hid (RuR wr (.slice ro2 m rc2) G ∧ Below w.heap.size w wr) := hid_of ⟨(hri.out.ru HM.out).1, B3.out.trans ((hri.out.ru HM.out).2.mono B3.out.size)⟩
      go_wp2
      go_ret2
      exact ⟨ro2, m, rc2, rfl, HM.out, HF.out⟩
end Go.Proofs.Ytedohggbpmcehaa

/- The reference's without: a list of strings without one element. Bounds on sizes alone. -/
namespace Go.Proofs.Ytedohggbpmcehaa
open Go.RowKit
set_option maxRecDepth 100000
set_option maxHeartbeats 400000

/-- append of a row, inside a region that draws its order. -/
theorem step_app {P : Program} {S E : TypeId} {z : Value} {eb : Nat} (T : Elem P S E z eb) {ops : Array Oper} {o : Oper} {a : Act} {w : World} {K : Act → World → Prop} {Q : Exit → Act → World → Prop} {F : Prop} (hgd : o.guard = none) (s x : Operand)
    (ho : o.op = .call { callee := .builtin .append, args := #[s, x], argTypes := #[S, S] })
    {B : Nat} {w0 : World} {v : Value} {l : List Value} (hv : a.eval s = v) (H : Ow E B w0 w v l) {vx : Value} {m : List Value} (hx : a.eval x = vx) (L : Rd w vx m) (h1 : ∀ u ∈ m, u.oneCell' = true) (hl : (l.length + m.length) * eb ≤ 140737488355328) (hl2 : l.length + m.length ≤ 140737488355328)
    (h : ∀ (ao : Option Addr) (n cap : Nat) (w' : World), n = l.length + m.length → Ow E B w0 w' (.slice ao n cap) (l ++ m) → K (a.put o.dst (.slice ao n cap)) w') :
    if Region.wanted o (yielded ops a.tmps) = true then Oper.wp P o a w K Q else F := by
  obtain ⟨i0, hi, hz0, hz1, hz2⟩ := info_parts T.info
  refine step_append_src _ hgd s x S S ho B E i0 z 1 eb T.und hi hz0 hz1 hz2 T.one (by decide) v l.length l hv H.own vx m.length m hx (L.srcs T h1) (by unfold maxLen; omega) (by omega) H.size ?_
  intro v2 w2 hown hg _ _
  have H2 := H.app hown rfl hg
  obtain ⟨ao, cap, rfl⟩ := own_shape hown
  exact h ao _ cap w2 rfl H2
theorem upto_str (g o len cap s : Nat) (hs : s ≤ cap) : ∀ wx, (Instr.slice 22 (.slice (some ⟨g, o, none⟩) len cap) none (some (.int .i64 (s : Int))) none).run Try.prog wx = .ok (.slice (some ⟨g, o, none⟩) s cap) wx := fun wx => by
  obtain ⟨i0, hi, hz0, hz1, hz2⟩ := info_parts strsE.info
  have he : Try.prog.elem 22 = 9 := by kernel_rfl
  have ht : Try.prog.underlying 22 = some (.slice (Try.prog.elem 22)) := by rw [he]; exact Try.underlying22
  have hsz : (sizeOf (Try.prog.elem 22)).run Try.prog wx = .ok 1 wx := by
    rw [he]
    simp [sizeOf, typeInfo, hi, hz1]
  rw [run_slice_h (t := 22) (ht := ht) (h0 := by omega) (h2 := by omega), hsz]
  simp [Result.andThen, sliced, Addr.add]
theorem fro_str (g o len cap s : Nat) (hs : s ≤ len) : ∃ A, (∀ wx, (Instr.slice 22 (.slice (some ⟨g, o, none⟩) len cap) (some (.int .i64 (s : Int))) none none).run Try.prog wx = .ok (.slice A (len - s) (cap - s)) wx) ∧ (s < len → len ≤ cap → A = some ⟨g, o + s, none⟩) := by
  obtain ⟨i0, hi, hz0, hz1, hz2⟩ := info_parts strsE.info
  have he : Try.prog.elem 22 = 9 := by kernel_rfl
  have ht : Try.prog.underlying 22 = some (.slice (Try.prog.elem 22)) := by rw [he]; exact Try.underlying22
  have hsz : ∀ wx, (sizeOf (Try.prog.elem 22)).run Try.prog wx = .ok 1 wx := fun wx => by
    rw [he]
    simp [sizeOf, typeInfo, hi, hz1]
  refine ⟨if cap = s then some ⟨g, o, none⟩ else (some (⟨g, o, none⟩ : Addr)).map (·.add (s * 1)), fun wx => ?_, fun hlt hc => ?_⟩
  · rw [run_slice_l (t := 22) (ht := ht) (h0 := by omega) (h1 := by omega), hsz]
    rfl
  · rw [if_neg (by omega), Option.map_some, Addr.add_mid, Nat.mul_one]

theorem rwo_any (ao : Option Addr) (n cap : Nat) (l : List Str) (j : Nat) (w : World) (R : Rd w (.slice ao n cap) (ss l)) (hj : j < n) (hn : n ≤ 1000000) :
    Calls Try.prog 59 #[.slice ao n cap, .int .i64 j] w fun e w' => ∃ bo k bc, e = .returned (.slice bo k bc) ∧ k + 1 = n ∧ Ow 9 w.heap.size w w' (.slice bo k bc) (ss (l.eraseIdx j)) := by
  obtain ⟨hnl, h2, h3, h4⟩ := rds_open R
  obtain ⟨g, o, rfl, hg, hc⟩ := h4.resolve_left (fun e => by rw [e] at hnl; simp at hnl; omega)
  have U1 := upto_str g o n cap j (by omega)
  obtain ⟨A2, F2, G2⟩ := fro_str g o n cap (j + 1) (by omega)
  have ec : ((j + 1 : Nat) : Int) = (j : Int) + 1 := by omega
  rw [ec] at F2
  have s2 : IntKind.i64.wrap ((j : Int) + 1) = (j : Int) + 1 := IntWalk.i64_in _ (by omega)
  obtain ⟨q, hq⟩ : ∃ q, q = n - (j + 1) := ⟨_, rfl⟩
  obtain ⟨c2, hc2⟩ : ∃ c2, c2 = cap - (j + 1) := ⟨_, rfl⟩
  have hq1 : q + j + 1 = n := by omega
  have L1 : (ss (l.take j)).length = j := by simp [ss]; omega
  have L2 : (ss (l.drop (j + 1))).length = q := by simp [ss]; omega
  have R1 : Hid (∀ W, Below w.heap.size w W → Rd W (.slice (some ⟨g, o, none⟩) j cap) (ss (l.take j))) := hid_of (fun W hW => ⟨_, cap, by rw [L1], by rw [L1]; omega, h3, fun _ => ⟨g, o, rfl, Nat.lt_of_lt_of_le hg hW.size, fun i v hv => by
    have hi := (List.getElem?_eq_some_iff.1 hv).1
    rw [L1] at hi
    simp only [ss, List.getElem?_map, List.getElem?_take, if_pos hi, Option.map_eq_some_iff] at hv
    obtain ⟨x, hx, rfl⟩ := hv
    exact (hW.cell (p := ⟨g, o + i, none⟩) hg).trans (hc i x hx)⟩⟩)
  have R2 : Hid (∀ W, Below w.heap.size w W → Rd W (.slice A2 q c2) (ss (l.drop (j + 1)))) := hid_of (fun W hW => ⟨A2, c2, by rw [L2], by rw [L2]; omega, by omega, fun h0 => by
    rw [L2] at h0
    refine ⟨g, o + (j + 1), G2 (by omega) (by omega), Nat.lt_of_lt_of_le hg hW.size, fun i v hv => ?_⟩
    simp only [ss, List.getElem?_map, List.getElem?_drop, Option.map_eq_some_iff] at hv
    obtain ⟨x, hx, rfl⟩ := hv
    have := hc (j + 1 + i) x hx
    rw [show o + (j + 1) + i = o + (j + 1 + i) by omega]
    exact (hW.cell (p := ⟨g, o + (j + 1 + i), none⟩) hg).trans this⟩)
  rw [← hq, ← hc2] at F2
  have HFT : Hid (ss (l.take j) ++ ss (l.drop (j + 1)) = ss (l.eraseIdx j)) := hid_of (by rw [List.eraseIdx_eq_take_drop_succ]; simp [ss])
  have HL1 := hid_of L1
  have HL2 := hid_of L2
  have b0 : (0 : Int) ≤ (j : Int) := by omega
  have HO1 : Hid (∀ (u : Str) (L : List Str), Value.string (ba u) ∈ ss L → True) := hid_of (fun _ _ _ => trivial)
  have HON : Hid (∀ L : List Str, ∀ u ∈ ss L, u.oneCell' = true) := hid_of (fun L u hu => by obtain ⟨y, _, rfl⟩ := List.mem_map.1 hu; rfl)
  have hjn : j ≤ 1000000 := by omega
  have hqn : q ≤ 1000000 := by omega
  have hqx : q + j + 1 ≤ n := by omega
  have hqy : n ≤ q + j + 1 := by omega
  clear h4 hc L1 L2 G2 hnl ec hq hc2 hq1 HO1 R
  go_enter Try.func59, Try.ntmps59
  go_wp2
  go_region_law (first
    | (refine step_app strsE (by kernel_rfl) (.tmp 5) (.tmp 8) (by kernel_rfl) (v := .slice (some ⟨w.heap.size, 0, none⟩) 0 0) (l := []) (by kernel_rfl) (ow_empty 9 w).drew (vx := .slice (some ⟨g, o, none⟩) j cap) (m := ss (l.take j)) (by kernel_rfl) (R1.out _ (bel_alloc w _).drew) (HON.out _) (by rw [HL1.out]; simp; omega) (by rw [HL1.out]; simp; omega) ?_; intro ao1 n1 cap1 w1 e1 h5; have HN1 : Hid (n1 = j) := hid_of (by rw [HL1.out] at e1; simpa using e1); have O1 := hid_of h5; clear e1 h5)
    | (refine step_app strsE (by kernel_rfl) (.tmp 9) (.tmp 13) (by kernel_rfl) (v := .slice ao1 n1 cap1) (l := [] ++ ss (l.take j)) (by kernel_rfl) O1.out (vx := .slice A2 q c2) (m := ss (l.drop (j + 1))) (by kernel_rfl) (R2.out _ O1.out.bel) (HON.out _) (by rw [List.nil_append, HL1.out, HL2.out]; omega) (by rw [List.nil_append, HL1.out, HL2.out]; omega) ?_; intro ao3 n3 cap3 w3 e1 h5; have HN3 : Hid (n3 + 1 = n) := hid_of (by rw [List.nil_append, HL1.out, HL2.out] at e1; omega); have O3 := hid_of h5; clear e1 h5))
  all_goals go_wp2
  go_ret
  exact ⟨ao3, n3, cap3, rfl, HN3.out, by rw [← HFT.out]; simpa using O3.out⟩
end Go.Proofs.Ytedohggbpmcehaa
