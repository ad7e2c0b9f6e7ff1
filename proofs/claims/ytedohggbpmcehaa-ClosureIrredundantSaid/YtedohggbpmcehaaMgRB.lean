/- Texts in one: ClsShr, ClsClo, ClsCg, ClsAdd, ClsAdd2, NmChr, NmVal, NamSet, NmStr, NmSrt. -/
import Derived.Test.YtedohggbpmcehaaMgRA
import Derived.Deep.RegionHeldLaw
import Derived.Test.YtedohggbpmcehaaProg
import Derived.RowKit
import Derived.WalkSpells
import Derived.WalkLawsBesides
import Derived.IntWalk
import Derived.Outline
import Derived.WalkKit
import Derived.Sort.LotA
import Derived.Sort.EncStr
/- shrink: the last names of the trail are taken back. Bounds on sizes alone. -/
namespace Go.Proofs.Ytedohggbpmcehaa
open Go.RowKit

theorem from_any (ao : Option Addr) (len cap s : Nat) (hs : s ≤ len) : ∃ A, (∀ wx, (Instr.slice 56 (.slice ao len cap) (some (.int .i64 (s : Int))) none none).run Try.prog wx = .ok (.slice A (len - s) (cap - s)) wx) ∧
    (∀ g, ao = some ⟨g, 0, none⟩ → s < len → len ≤ cap → A = some ⟨g, s, none⟩) := by
  obtain ⟨i0, hi, hz0, hz1, hz2⟩ := info_parts intsE.info
  have he : Try.prog.elem 56 = 3 := by kernel_rfl
  have ht : Try.prog.underlying 56 = some (.slice (Try.prog.elem 56)) := by rw [he]; exact Try.underlying56
  have hsz : ∀ wx, (sizeOf (Try.prog.elem 56)).run Try.prog wx = .ok 1 wx := fun wx => by
    rw [he]
    simp [sizeOf, typeInfo, hi, hz1]
  refine ⟨if cap = s then ao else ao.map (·.add (s * 1)), fun wx => ?_, fun g hg hlt hc => ?_⟩
  · rw [run_slice_l (t := 56) (ht := ht) (h0 := by omega) (h1 := by omega), hsz]
    rfl
  · rw [if_neg (by omega), hg, Option.map_some, Addr.add_mid, Nat.zero_add, Nat.mul_one]

theorem mixL_back {R : List Hrl} {off : Nat → Nat} {C : List Nat} {a i : Nat} (hi : i < R.length) : mixL R off (usesF R a) (usesF R a).length (C ++ [a]) C i = lackR R off C i := by
  unfold mixL
  rw [List.take_length]
  by_cases h : i ∈ usesF R a
  · rw [if_pos h]
  · rw [if_neg h]; exact (lackR_out hi h).symm
def hsF (T : List Nat) (s j i : Nat) : Bool := memB T i && !(memB ((T.drop s).take j) i)
theorem hsF_next {T : List Nat} {s j x : Nat} (h : (T.drop s)[j]? = some x) (i : Nat) : (if i = x then false else hsF T s j i) = hsF T s (j + 1) i := by
  unfold hsF memB
  rw [take_snoc_get h]
  by_cases e : i = x <;> simp [e]
theorem hsF_end {T : List Nat} (hn : T.Nodup) (s j i : Nat) (hj : T.length ≤ s + j) : hsF T s j i = memB (T.take s) i := by
  unfold hsF memB
  rw [List.take_of_length_le (by rw [List.length_drop]; omega)]
  have h1 : i ∈ T ↔ i ∈ T.take s ∨ i ∈ T.drop s := by
    rw [← List.mem_append, List.take_append_drop]
  have h2 : i ∈ T.take s → i ∉ T.drop s := fun h3 h4 => by
    have := hn
    rw [← List.take_append_drop s T, List.nodup_append] at this
    exact this.2.2 i h3 i h4 rfl
  by_cases a1 : i ∈ T.take s
  · simp [h1, a1, h2 a1]
  · by_cases a2 : i ∈ T.drop s <;> simp [h1, a1, a2]
def ShrA (w : World) (c n : Nat) (R : List Hrl) (off : Nat → Nat) (T : List Nat) (k s : Nat) (V : CV) (S : Nat → Prop) (j : Nat) (wr : World) : Prop :=
  CH wr c n R (lackR R off (T.take k)) (hsF T s j) T k V S ∧ Chg S S w wr
def ShrB (w : World) (c n : Nat) (R : List Hrl) (off : Nat → Nat) (T : List Nat) (k s : Nat) (V : CV) (S : Nat → Prop) (kj : Nat) (wr : World) : Prop :=
  CH wr c n R (lackR R off (T.take kj)) (memB (T.take s)) T kj V S ∧ Chg S S w wr ∧ kj ≤ k ∧ (kj = k ∨ s ≤ kj)
def ShrC (w : World) (c n : Nat) (R : List Hrl) (off : Nat → Nat) (T : List Nat) (k s : Nat) (V : CV) (S : Nat → Prop) (kj km a j : Nat) (wr : World) : Prop :=
  CH wr c n R (mixL R off (usesF R a) j (T.take kj) (T.take km)) (memB (T.take s)) T kj V S ∧ Chg S S w wr ∧ kj ≤ k ∧ s ≤ km
def ShrP (w : World) (c n : Nat) (R : List Hrl) (off : Nat → Nat) (T : List Nat) (k s : Nat) (V : CV) (S : Nat → Prop) (e : Ending) (w' : World) : Prop :=
  e = .returned (.tuple #[]) ∧ ∃ tv, CH w' c n R (lackR R off ((T.take s).take (min k s))) (memB (T.take s)) (T.take s) (min k s) { V with tv := tv } S ∧ Chg S S w w'

set_option maxRecDepth 100000 in
set_option maxHeartbeats 1600000 in
theorem shr_any (c n s k : Nat) (R : List Hrl) (off : Nat → Nat) (T : List Nat) (V : CV) (S : Nat → Prop) (w : World) (h : CH w c n R (lackR R off (T.take k)) (memB T) T k V S) (hk : k ≤ T.length) (hs : s ≤ T.length) (hn : n ≤ 1000000) (hR : ∀ i, off i ≤ 1) :
    Calls Try.prog 69 #[.pointer (some ⟨c, 0, none⟩), .int .i64 s] w (ShrP w c n R off T k s V S) := by
  obtain ⟨ta, tc, htv⟩ := h.tvs
  have htr := h.tr
  rw [htv] at htr
  have hlen := h.len
  obtain ⟨hTc, htc⟩ : T.length ≤ tc ∧ tc ≤ 9223372036854775807 := by
    rcases own_shape2 htr with ⟨h5, h6⟩ | ⟨_, _, h5, _, h6, h7⟩
    · simp only [Value.slice.injEq] at h5; omega
    · simp only [Value.slice.injEq] at h5; omega
  obtain ⟨A, hA1, hA2⟩ := from_any ta T.length tc s hs
  have HA : Hid (∀ j wr, ShrA w c n R off T k s V S j wr → j < T.length - s → ∃ g x : Nat, A = some ⟨g, s, none⟩ ∧ wr.cell? ⟨g, s + j, none⟩ = some (.int .i64 (x : Int)) ∧ x < n ∧ wr.cell? ⟨c, 4, none⟩ = some (.slice (some ⟨V.gh, 0, none⟩) n n) ∧ (∃ b, wr.cell? ⟨V.gh, x, none⟩ = some (.bool b)) ∧ wr.frozen? ⟨V.gh, x, none⟩ = false ∧ ShrA w c n R off T k s V S (j + 1) (wr.setCell ⟨V.gh, x, none⟩ (.bool false))) := hid_of (fun j wr hi hj => by
    obtain ⟨q1, q2⟩ := hi
    obtain ⟨x, hx⟩ : ∃ x, T[s + j]? = some x := ⟨_, List.getElem?_eq_getElem (by omega)⟩
    have hxd : (T.drop s)[j]? = some x := by rw [List.getElem?_drop]; exact hx
    have hxn : x < n := h.tn x (List.mem_of_getElem? hx)
    have q3 := q1.tr
    rw [htv] at q3
    obtain ⟨g, rfl⟩ : ∃ g, ta = some ⟨g, 0, none⟩ := by
      rcases q3.2 with ⟨_, h6⟩ | ⟨g, _, _, h5, _⟩
      · omega
      · simp only [Value.slice.injEq] at h5; exact ⟨g, h5.1⟩
    exact ⟨g, x, hA2 g rfl (by omega) hTc, own_cell q3 (ints_get hx), hxn, q1.cell (j := 4) rfl, ⟨_, q1.hasc hxn⟩, q1.hasf x, (q1.setHas x false).conv (fun _ _ => rfl) (fun i _ => hsF_next hxd i), q2.trans (chg_set q1.sh)⟩)
  have HAB : Hid (∀ wr, ShrA w c n R off T k s V S (T.length - s) wr → ShrB w c n R off T k s V S k wr) := hid_of (fun wr hi => ⟨hi.1.conv (fun _ _ => rfl) (fun i _ => hsF_end h.nd s _ i (by omega)), hi.2, Nat.le_refl _, .inl rfl⟩)
  have HA0 : Hid (ShrA w c n R off T k s V S 0 w) := hid_of ⟨h.conv (fun _ _ => rfl) (fun i _ => by unfold hsF; simp [memB]), Chg.refl _ _⟩
  have HB : Hid (∀ kj wr, ShrB w c n R off T k s V S kj wr → (wr.cell? ⟨c, 6, none⟩ = some (.int .i64 (kj : Int)) ∧ wr.cell? ⟨c, 5, none⟩ = some (.slice ta T.length tc) ∧ wr.frozen? ⟨c, 5, none⟩ = false ∧ kj ≤ 1000000) ∧
      (kj ≤ s → ∀ e, e = .returned (.tuple #[]) → ShrP w c n R off T k s V S e (wr.setCell ⟨c, 5, none⟩ (.slice ta s tc))) ∧
      (s < kj → ∃ km a gt uo um uc, km + 1 = kj ∧ ta = some ⟨gt, 0, none⟩ ∧ km < T.length ∧ a < n ∧ um = (usesF R a).length ∧ um ≤ 9223372036854775807 ∧ wr.cell? ⟨gt, km, none⟩ = some (.int .i64 (a : Int)) ∧ wr.cell? ⟨c, 1, none⟩ = some (.slice (some ⟨V.gu, 0, none⟩) n n) ∧ wr.cell? ⟨V.gu, a, none⟩ = some (.slice uo um uc) ∧ V.ur[a]? = some (.slice uo um uc) ∧ T[km]? = some a ∧
        ∀ q, ShrC w c n R off T k s V S kj km a 0 (wr.drewN q))) := hid_of (fun kj wr hi => by
    obtain ⟨q1, q2, q3, q4⟩ := hi
    refine ⟨⟨q1.cell (j := 6) rfl, by have := q1.cell (j := 5) rfl; rw [htv] at this; exact this, q1.free 5, by omega⟩, fun hle e he => ?_, fun hlt => ?_⟩
    · have e1 : kj = min k s := by omega
      subst e1
      have p1 := q1.cut htv hs
      refine ⟨he, .slice ta s tc, ?_, q2.trans (chg_set q1.sc)⟩
      rw [List.take_take, Nat.min_eq_left hle]
      exact p1
    · obtain ⟨km, rfl⟩ : ∃ km, kj = km + 1 := ⟨kj - 1, by omega⟩
      obtain ⟨a, ha⟩ : ∃ a, T[km]? = some a := ⟨_, List.getElem?_eq_getElem (by omega)⟩
      have han : a < n := h.tn a (List.mem_of_getElem? ha)
      have p3 := q1.tr
      rw [htv] at p3
      obtain ⟨gt, rfl⟩ : ∃ g, ta = some ⟨g, 0, none⟩ := by
        rcases p3.2 with ⟨_, h6⟩ | ⟨g, _, _, h5, _⟩
        · omega
        · simp only [Value.slice.injEq] at h5; exact ⟨g, h5.1⟩
      obtain ⟨uv, huv⟩ : ∃ uv, V.ur[a]? = some uv := ⟨_, List.getElem?_eq_getElem (by rw [h.ul]; exact han)⟩
      obtain ⟨uo, uc, huv2⟩ := own_shape (q1.us a uv huv)
      subst huv2
      have hmc : (usesF R a).length ≤ 9223372036854775807 := by
        rcases own_shape2 (q1.us a _ huv) with ⟨_, h6⟩ | ⟨_, _, h5, _, h6, h7⟩
        · omega
        · omega
      have hd : ∀ q, Below wr.heap.size wr (wr.drewN q) := fun q => bel_drewN (Below.refl _ _) q
      exact ⟨km, a, gt, uo, (usesF R a).length, uc, rfl, rfl, by omega, han, rfl, hmc, own_cell p3 (ints_get ha), q1.cell (j := 1) rfl, blk_cell q1.uu huv, huv, ha, fun q => ⟨(q1.at (hd q)).conv (fun i _ => (mixL_zero _ _ _ _ _ _).symm) (fun _ _ => rfl), q2.trans (Chg.ofBelow (hd q)), q3, by omega⟩⟩)
  have HC : Hid (∀ kj km a uo um uc j wr, km + 1 = kj → T[km]? = some a → V.ur[a]? = some (.slice uo um uc) → um = (usesF R a).length → ShrC w c n R off T k s V S kj km a j wr → wr.cell? ⟨c, 6, none⟩ = some (.int .i64 (kj : Int)) ∧ wr.frozen? ⟨c, 6, none⟩ = false ∧ 
      (j = um → ShrB w c n R off T k s V S km (wr.setCell ⟨c, 6, none⟩ (.int .i64 (km : Int)))) ∧
      (j < um → ∃ r y gr go gl lc mR : Nat, wr.cell? ⟨c, 3, none⟩ = some (.slice (some ⟨gl, 0, none⟩) mR lc) ∧ wr.cell? ⟨gr, go + j, none⟩ = some (.int .i64 (r : Int)) ∧ uo = some ⟨gr, go, none⟩ ∧ r < mR ∧ mR ≤ 9223372036854775807 ∧
        wr.cell? ⟨gl, r, none⟩ = some (.int .i64 (y : Int)) ∧ wr.frozen? ⟨gl, r, none⟩ = false ∧ y ≤ 2000000 ∧ ShrC w c n R off T k s V S kj km a (j + 1) (wr.setCell ⟨gl, r, none⟩ (.int .i64 ((y : Int) + 1))))) := hid_of (fun kj km a uo um uc j wr hkm ha huv hum hi => by
    subst hkm
    obtain ⟨q1, q2, q3, q4⟩ := hi
    have et := take_snoc_get ha
    refine ⟨q1.cell (j := 6) rfl, q1.free 6, fun hj => ?_, fun hj => ?_⟩
    · refine ⟨((q1.setCount km).conv (fun i hi => ?_) (fun _ _ => rfl)), q2.trans (chg_set q1.sc), by omega, .inr q4⟩
      rw [hj, hum, et]; exact mixL_back hi
    · obtain ⟨r, hr⟩ : ∃ r, (usesF R a)[j]? = some r := ⟨_, List.getElem?_eq_getElem (by omega)⟩
      have hrm : r ∈ usesF R a := List.mem_of_getElem? hr
      have hrR : r < R.length := (mem_usesF.1 hrm).1
      obtain ⟨lo, lc, hlv⟩ := own_shape q1.la
      have hlo := q1.la
      rw [hlv] at hlo
      obtain ⟨gl, rfl⟩ : ∃ g, lo = some ⟨g, 0, none⟩ := by
        rcases hlo.2 with ⟨_, h6⟩ | ⟨g, _, _, h5, _⟩
        · omega
        · simp only [Value.slice.injEq] at h5; exact ⟨g, h5.1⟩
      have hus := q1.us a _ huv
      rw [← hum] at hus
      obtain ⟨gr, rfl⟩ : ∃ g, uo = some ⟨g, 0, none⟩ := by
        rcases hus.2 with ⟨_, h6⟩ | ⟨g, _, _, h5, _⟩
        · omega
        · simp only [Value.slice.injEq] at h5; exact ⟨g, h5.1⟩
      have hlen : R.length ≤ 9223372036854775807 := by
        rcases own_shape2 hlo with ⟨h5, _⟩ | ⟨_, _, h5, _, h6, h7⟩
        · cases h5
        · omega
      have hy : lackR R off (T.take km) r = lackR R off (T.take (km + 1)) r + 1 := by rw [et]; exact lackR_step (not_take h.nd ha) hrm (h.pn r hrR).1
      have hyb : lackR R off (T.take (km + 1)) r ≤ 2000000 := by
        have p1 := lackF_le (prem R r) (T.take (km + 1))
        have p2 := nodup_bound n (prem R r) (h.pn r hrR).1 (h.pn r hrR).2
        have p3 := hR r
        unfold lackR
        omega
      refine ⟨r, lackR R off (T.take (km + 1)) r, gr, 0, gl, lc, R.length, ?_, ?_, rfl, hrR, hlen, ?_, own_free hlo r, hyb, ?_, q2.trans (chg_set (q1.sl gl (by rw [hlv]; rfl))), q3, q4⟩
      · have := q1.cell (j := 3) rfl
        rw [hlv] at this; exact this
      · rw [Nat.zero_add]; exact own_cell hus (ints_get hr)
      · have := own_cell hlo (lks_get _ hrR)
        rw [mixL_at (usesF_nodup R a) hr] at this; exact this
      · exact (q1.setLack (i := r) (x := lackR R off (T.take (km + 1)) r + 1) hlv).conv (fun i _ => by
          have e := mixL_next (R := R) (off := off) (C := T.take (km + 1)) (C' := T.take km) hr i
          rw [hy] at e
          exact e) (fun _ _ => rfl))
  have c5 : w.cell? ⟨c, 5, none⟩ = some (.slice ta T.length tc) := by have := h.cell (j := 5) rfl; rw [htv] at this; exact this
  obtain ⟨m, hm⟩ : ∃ m, m = T.length := ⟨_, rfl⟩
  obtain ⟨q, hq⟩ : ∃ q, q = T.length - s := ⟨_, rfl⟩
  have hqm : q ≤ 1000000 := by omega
  have hsm : s ≤ m := by omega
  have hmt : m ≤ tc := by omega
  rw [← hm] at c5 HB
  rw [← hq, ← hm] at hA1
  rw [← hq] at HA HAB
  clear h hk hs hn hR htv htr hA2 hm hq hlen
  have hTc2 : tc ≤ 9223372036854775807 := htc
  clear hTc htc
  go_enter Try.func69, Try.ntmps69
  go_wp2
  go_loopw [5, 15] (fun xv iv wr => ∃ (j : Nat) (v : Value), xv = v ∧ j ≤ q ∧ iv = .int .i64 j ∧ Hid (ShrA w c n R off T k s V S j wr)) (fun _ iv _ => q - (intOf iv).toNat)
  case atStart => exact ⟨0, _, rfl, Nat.zero_le _, rfl, HA0⟩
  case round =>
    obtain ⟨j, v, rfl, hj, rfl, hi⟩ := hrel
    by_cases hlt : j < q
    · have hd : decide (j < q) = true := by simp; omega
      obtain ⟨g, x, hAe, e1, e2, e3, ⟨b, e4⟩, e5, e6⟩ := HA.out j wr hi.out hlt
      subst hAe
      have HN := hid_of e6
      clear e6 hi
      go_wp2
      go_roundw
      case rel => exact ⟨j + 1, _, rfl, by omega, by go_num, HN⟩
      case measure => simp [intOf]; omega
    · have hd : decide (j < q) = false := by simp; omega
      obtain rfl : j = q := by omega
      have HB0 := hid_of (HAB.out wr hi.out)
      clear hi HA HA0 HAB hA1 hlt
      go_wp2
      go_loopg [31] k (fun kj xv wr => ∃ v : Value, xv = v ∧ Hid (ShrB w c n R off T k s V S kj wr))
      case atStart => exact ⟨_, rfl, HB0⟩
      case round =>
        obtain ⟨v, rfl, hi⟩ := hrel
        obtain ⟨⟨e1, e2, e3, e4⟩, e5, e6⟩ := HB.out _ wr hi.out
        by_cases hlt : s < gk
        · have t1 : decide (s < gk) = true := by simp; omega
          have t2 : decide (gk > s) = true := by simp; omega
          obtain ⟨km, a, gt, uo, um, uc, f1, f2, f3, f4, f5, f6, f7, f8, f9, f10, f11, f12⟩ := e6 hlt
          have HKM := hid_of f1
          have HUM := hid_of f5
          have H10 := hid_of f10
          have H11 := hid_of f11
          have HC0 := hid_of f12

          have w1 : IntKind.i64.wrap ((gk : Int) - 1) = (km : Int) := by rw [IntWalk.i64_in _ (by omega)]; omega
          have w2 : (gk : Int) - 1 = (km : Int) := by omega
          have w3 : km ≤ 1000000 := by omega
          clear e5 e6 hi f1 f5 f10 f11 f12 hlt
          subst f2
          go_wp2
          go_quiet (fail)
          have HC1 := hid_of (HC0.out nq)
          clear HC0 w1 e1 e2 e3 f7 f8 f9
          generalize wr.drewN nq = wz at *
          go_wp2
          obtain ⟨wo, rfl⟩ : ∃ wo : World, wo = wr := ⟨_, rfl⟩
          go_loopw [7, 57] (fun xv iv wr => ∃ (j : Nat) (v : Value), xv = v ∧ j ≤ um ∧ iv = .int .i64 j ∧ Hid (ShrC w c n R off T k s V S gk km a j wr)) (fun _ iv _ => um - (intOf iv).toNat)
          case atStart => exact ⟨0, _, rfl, Nat.zero_le _, rfl, HC1⟩
          case round =>
            obtain ⟨j, v, rfl, hj, rfl, hi⟩ := hrel
            obtain ⟨g1, g2, g3, g4⟩ := HC.out gk km a uo um uc j wr HKM.out H11.out H10.out HUM.out hi.out
            by_cases hlt : j < um
            · have hd : decide (j < um) = true := by simp; omega
              obtain ⟨r, y, gr, go, gl, lc, mR, i1, i2, i3, i4, i5, i6, i7, i8, i9⟩ := g4 hlt
              subst i3
              have HN := hid_of i9
              clear g1 g2 g3 g4 i9 hi w2
              go_wp2
              go_roundw
              case rel => exact ⟨j + 1, _, rfl, by omega, by go_num, HN⟩
              case measure => simp [intOf]; omega
            · have hd : decide (j < um) = false := by simp; omega
              obtain rfl : j = um := by omega
              have HN := hid_of (g3 rfl)
              clear g3 g4 hi hlt
              go_wp2
              go_roundg km
              case measure => have := HKM.out; omega
              case rel => exact ⟨_, rfl, HN⟩
        · have t1 : decide (s < gk) = false := by simp; omega
          have t2 : decide (gk > s) = false := by simp; omega
          have HN := hid_of (e5 (by omega))
          clear e5 e6 hi
          go_wp2
          go_end0
          exact HN.out _ rfl
end Go.Proofs.Ytedohggbpmcehaa

/- close: the chase becomes the closure of a set; entails. Bounds on sizes alone. -/
namespace Go.Proofs.Ytedohggbpmcehaa
open Go.RowKit

def CloI (w : World) (c n : Nat) (R : List Hrl) (off : Nat → Nat) (l : List Nat) (V : CV) (S : Nat → Prop) (j : Nat) (wr : World) : Prop :=
  ∃ Tj tv Sj, CH wr c n R (lackR R off []) (memB Tj) Tj 0 { V with tv := tv } Sj ∧ Chg S Sj w wr ∧ (∀ x, x ∈ Tj → Der (On R off) (fun x => x ∈ l) x) ∧ ∀ i, i ∈ (freeF R).take j → off i = 0 → ∀ x, x ∈ conc R i → x ∈ Tj
def CloP (w : World) (c n : Nat) (R : List Hrl) (off : Nat → Nat) (l : List Nat) (V : CV) (S : Nat → Prop) (e : Ending) (w' : World) : Prop :=
  e = .returned (.tuple #[]) ∧ ∃ T' tv S', CH w' c n R (lackR R off (T'.take T'.length)) (memB T') T' T'.length { V with tv := tv } S' ∧ Chg S S' w w' ∧ (∀ x, x ∈ T' ↔ Der (On R off) (fun x => x ∈ l) x)
theorem mem_freeF {R : List Hrl} {i : Nat} : i ∈ freeF R ↔ i < R.length ∧ prem R i = [] := by simp [freeF]

set_option maxRecDepth 100000 in
set_option maxHeartbeats 1600000 in
theorem clo_any (c n k : Nat) (R : List Hrl) (off : Nat → Nat) (T : List Nat) (V : CV) (S : Nat → Prop) (l : List Nat) (lv : Value) (w : World) (h : CH w c n R (lackR R off (T.take k)) (memB T) T k V S) (hk : k ≤ T.length)
    (L : Rd w lv (ints l)) (hLS : ∀ g, lv.ownBlock = some g → g < w.heap.size ∧ ¬ S g) (hl : ∀ x ∈ l, x < n) (hn : n ≤ 1000000) (hR : ∀ i, off i ≤ 1) :
    Calls Try.prog 47 #[.pointer (some ⟨c, 0, none⟩), lv] w (CloP w c n R off l V S) := by
  have HSH : Hid (Calls Try.prog 69 #[.pointer (some ⟨c, 0, none⟩), .int .i64 0] w fun e w' => e = .returned (.tuple #[]) ∧ CloI w c n R off l V S 0 w') := hid_of ((shr_any c n 0 k R off T V S w h hk (Nat.zero_le _) hn hR).mono fun e w' h5 => by
    obtain ⟨rfl, tv, q1, q2⟩ := h5
    refine ⟨rfl, [], tv, S, ?_, q2, by simp, by simp⟩
    have e0 : min k 0 = 0 := Nat.min_zero k
    rw [e0] at q1
    exact q1)
  obtain ⟨fo, fc, hfv⟩ := own_shape h.fr
  have hrd : ∀ wr Sj, Chg S Sj w wr → Rd wr lv (ints l) ∧ ∀ g, lv.ownBlock = some g → ¬ Sj g := fun wr Sj q => ⟨q.rd L fun g hg => (hLS g hg).2, fun g hg h5 => by
    rcases q.sub g h5 with h6 | h6
    · exact (hLS g hg).2 h6
    · have := (hLS g hg).1; omega⟩
  have HGR : Hid (∀ wr, CloI w c n R off l V S (freeF R).length wr → Calls Try.prog 71 #[.pointer (some ⟨c, 0, none⟩), lv, .int .i64 0] wr fun e w' => (∃ b, e = .returned (.bool b)) ∧ CloP w c n R off l V S (.returned (.tuple #[])) w') := hid_of (fun wr hi => by
    obtain ⟨Tj, tv, Sj, q1, q2, q3, q4⟩ := hi
    obtain ⟨r1, r2⟩ := hrd wr Sj q2
    refine (grow_any c n 0 0 R off Tj _ Sj l lv wr q1 (fun i hi ho hp x hx => q4 i ?_ ho x hx) (Nat.zero_le _) r1 r2 hl (Nat.zero_le _) hn hR).mono fun e w' h5 => ?_
    · rw [List.take_length]
      refine mem_freeF.2 ⟨hi, ?_⟩
      cases hpe : prem R i with
      | nil => rfl
      | cons a p => have := hp a (by rw [hpe]; simp); simp at this
    · obtain ⟨T', k', tv', S', ok, rfl, p1, p2, p3, p4, _⟩ := h5
      have hok : ok = true := by
        cases ok with
        | true => rfl
        | false => obtain ⟨x, hx, _⟩ := p3.bad rfl; omega
      obtain ⟨rfl, p5⟩ := p4 hok
      refine ⟨⟨ok, rfl⟩, rfl, T', tv', S', p1, q2.trans p2, fun x => ?_⟩
      obtain ⟨U, eU, _⟩ := p3.pre
      rw [p3.done hok (fun x hx => by
        rcases hx with hx | hx
        · rw [eU]; exact List.mem_append_left _ hx
        · exact p5 x hx) x]
      exact ⟨der_mono fun y hy => hy.elim (q3 y) Der.base, der_mono fun y hy => .base (.inr hy)⟩)
  have HPU : Hid (∀ j wr, CloI w c n R off l V S j wr → wr.cell? ⟨c, 0, none⟩ = some (.slice fo (freeF R).length fc) ∧ (j < (freeF R).length → ∃ (r x gf go gl lc mR ga : Nat) (av : Value) (ac : Nat), fo = some ⟨gf, go, none⟩ ∧ wr.cell? ⟨gf, go + j, none⟩ = some (.int .i64 (r : Int)) ∧ wr.cell? ⟨c, 3, none⟩ = some (.slice (some ⟨gl, 0, none⟩) mR lc) ∧ r < mR ∧ mR ≤ 9223372036854775807 ∧
      wr.cell? ⟨gl, r, none⟩ = some (.int .i64 (x : Nat)) ∧ wr.cell? ⟨c, 2, none⟩ = some (.slice (some ⟨ga, 0, none⟩) mR ac) ∧ wr.cell? ⟨ga, r, none⟩ = some av ∧ 
      (x ≠ 0 → CloI w c n R off l V S (j + 1) wr) ∧
      (x = 0 → Calls Try.prog 70 #[.pointer (some ⟨c, 0, none⟩), av, .int .i64 0] wr fun e w' => (∃ b, e = .returned (.bool b)) ∧ CloI w c n R off l V S (j + 1) w'))) := hid_of (fun j wr hi => by
    obtain ⟨Tj, tv, Sj, q1, q2, q3, q4⟩ := hi
    have hfo := q1.fr
    rw [hfv] at hfo
    refine ⟨by have := q1.cell (j := 0) rfl; rw [hfv] at this; exact this, fun hj => ?_⟩
    obtain ⟨gf, rfl⟩ : ∃ g, fo = some ⟨g, 0, none⟩ := by
      rcases hfo.2 with ⟨_, h6⟩ | ⟨g, _, _, h5, _⟩
      · omega
      · simp only [Value.slice.injEq] at h5; exact ⟨g, h5.1⟩
    obtain ⟨r, hr⟩ : ∃ r, (freeF R)[j]? = some r := ⟨_, List.getElem?_eq_getElem hj⟩
    obtain ⟨hrR, hrp⟩ := mem_freeF.1 (List.mem_of_getElem? hr)
    obtain ⟨lo, lc, hlv⟩ := own_shape q1.la
    have hlo := q1.la
    rw [hlv] at hlo
    obtain ⟨gl, rfl⟩ : ∃ g, lo = some ⟨g, 0, none⟩ := by
      rcases hlo.2 with ⟨_, h6⟩ | ⟨g, _, _, h5, _⟩
      · omega
      · simp only [Value.slice.injEq] at h5; exact ⟨g, h5.1⟩
    obtain ⟨ao, ac, hav⟩ := own_shape q1.ad
    have hao := q1.ad
    rw [hav] at hao
    obtain ⟨ga, rfl⟩ : ∃ g, ao = some ⟨g, 0, none⟩ := by
      rcases hao.2 with ⟨_, h6⟩ | ⟨g, _, _, h5, _⟩
      · omega
      · simp only [Value.slice.injEq] at h5; exact ⟨g, h5.1⟩
    have hal : V.ar.length = R.length := by have := q1.ad.1; rw [Nat.mul_one] at this; exact this
    obtain ⟨cv, hcv⟩ : ∃ cv, V.ar[r]? = some cv := ⟨_, List.getElem?_eq_getElem (by omega)⟩
    have hai := q1.ai r cv hcv
    have hlen : R.length ≤ 9223372036854775807 := by
      rcases own_shape2 hlo with ⟨h5, _⟩ | ⟨_, _, h5, _, h6, h7⟩
      · cases h5
      · omega
    have hlk : lackR R off [] r = off r := by unfold lackR lackF; rw [hrp]; simp
    refine ⟨r, off r, gf, 0, gl, lc, R.length, ga, cv, ac, rfl, by rw [Nat.zero_add]; exact own_cell hfo (ints_get hr), by have := q1.cell (j := 3) rfl; rw [hlv] at this; exact this, hrR, hlen, ?_, by have := q1.cell (j := 2) rfl; rw [hav] at this; exact this, own_cell hao hcv, fun hx => ?_, fun hx => ?_⟩
    · have := own_cell hlo (lks_get _ hrR)
      rw [hlk] at this; exact this
    · refine ⟨Tj, tv, Sj, q1, q2, q3, fun i hi ho => ?_⟩
      rw [take_snoc_get hr, List.mem_append, List.mem_singleton] at hi
      rcases hi with hi | rfl
      · exact q4 i hi ho
      · exact absurd ho hx
    · refine (put_any c n 0 0 R (lackR R off []) Tj _ Sj (conc R r) cv wr q1 hai.1 (fun g hg => (hai.2 g hg).2) (fun y hy => h.rn r y hrR hy) (Nat.zero_le _) hn).mono fun e w' h5 => ?_
      obtain ⟨tv', S', rfl, p1, p2⟩ := h5
      obtain ⟨U, eU, hU, _⟩ := putF_pre 0 (conc R r) Tj
      refine ⟨⟨_, rfl⟩, _, tv', S', p1, q2.trans p2, fun y hy => ?_, fun i hi ho y hy => ?_⟩
      · rw [eU, List.mem_append] at hy
        rcases hy with hy | hy
        · exact q3 y hy
        · have hg : R[r]? = some R[r] := List.getElem?_eq_getElem hrR
          refine .rule (r := R[r]) ⟨r, hg, hx⟩ (fun z hz => ?_) (by rw [← conc_of hg]; exact (hU y hy).1)
          rw [← prem_of hg, hrp] at hz
          simp at hz
      · rw [take_snoc_get hr, List.mem_append, List.mem_singleton] at hi
        rcases hi with hi | rfl
        · rw [eU]; exact List.mem_append_left _ (q4 i hi ho y hy)
        · exact putF_true 0 (conc R i) Tj (putF_zero _ _) y hy)
  obtain ⟨m, hm⟩ : ∃ m, m = (freeF R).length := ⟨_, rfl⟩
  rw [← hm] at HGR HPU
  have hmb : Hid (∀ wr, CloI w c n R off l V S 0 wr → m ≤ 9223372036854775807) := hid_of (fun wr hi => by
    obtain ⟨Tj, tv, Sj, q1, q2, q3, q4⟩ := hi
    rcases own_shape2 q1.fr with ⟨_, h6⟩ | ⟨_, _, _, _, h6, h7⟩
    · omega
    · omega)
  clear h hk L hLS hl hn hR hrd hm hfv
  go_enter Try.func47, Try.ntmps47
  go_wp2_with (go_at_call 69; ((with_reducible refine (HSH.out).mono ?_); (rintro e w1 ⟨rfl, h5⟩)); have HI := hid_of h5; clear h5; have f1 := (HPU.out 0 w1 HI.out).1)
  have hm := hmb.out w1 HI.out
  go_loopw [5, 13] (fun xv iv wr => ∃ (j : Nat) (v : Value), xv = v ∧ j ≤ m ∧ iv = .int .i64 j ∧ Hid (CloI w c n R off l V S j wr)) (fun _ iv _ => m - (intOf iv).toNat)
  case atStart => exact ⟨0, _, rfl, Nat.zero_le _, rfl, HI⟩
  case round =>
    obtain ⟨j, v, rfl, hj, rfl, hi⟩ := hrel
    by_cases hlt : j < m
    · have hd : decide (j < m) = true := by simp; omega
      obtain ⟨r, x, gf, go, gl, lc, mR, ga, av, ac, e0, e1, e2, e3, e4, e5, e6, e7, e8, e9⟩ := (HPU.out j wr hi.out).2 hlt
      subst e0
      have HA := hid_of e8
      have HB := hid_of e9
      clear e8 e9 hi f1
      by_cases hx0 : x = 0
      · have t0 : ((x : Int) == 0) = true := by simp [hx0]
        have HC := hid_of (HB.out hx0)
        clear hx0
        go_wp2_with (go_at_call 70; ((with_reducible refine (HC.out).mono ?_); (rintro e w2 ⟨⟨b, rfl⟩, h5⟩)); have HH := hid_of h5; clear h5)
        go_roundw
        case rel => exact ⟨j + 1, _, rfl, by omega, by go_num, HH⟩
        case measure => simp [intOf]; omega
      · have t0 : ((x : Int) == 0) = false := by simp [hx0]
        have HC := hid_of (HA.out hx0)
        clear hx0
        go_wp2
        go_roundw
        case rel => exact ⟨j + 1, _, rfl, by omega, by go_num, HC⟩
        case measure => simp [intOf]; omega
    · have hd : decide (j < m) = false := by simp; omega
      obtain rfl : j = m := by omega
      have HC := hid_of (HGR.out wr hi.out)
      clear hi hlt f1
      go_wp2_with (go_at_call 71; ((with_reducible refine (HC.out).mono ?_); (rintro e w2 ⟨⟨b, rfl⟩, h5⟩)); have HE := hid_of h5; clear h5)
      go_end0
      exact HE.out
end Go.Proofs.Ytedohggbpmcehaa

/- The chase while a rule is added: all its rows of numbers as one family. -/
namespace Go.Proofs.Ytedohggbpmcehaa
open Go.RowKit

/-- The cells of the struct. -/
def cgCells (ro : Nat → Value) (av : Value) (gu gh n k : Nat) : List Value := [ro 0, .slice (some ⟨gu, 0, none⟩) n n, av, ro 1, .slice (some ⟨gh, 0, none⟩) n n, ro 2, .int .i64 (k : Int)]
def urF (ro : Nat → Value) (n : Nat) : List Value := (List.range n).map fun i => ro (3 + i)
theorem urF_get {ro : Nat → Value} {n i : Nat} (h : i < n) : (urF ro n)[i]? = some (ro (3 + i)) := by simp [urF, h]
theorem urF_inv {ro : Nat → Value} {n i : Nat} {v : Value} (h : (urF ro n)[i]? = some v) : i < n ∧ v = ro (3 + i) := by
  have h1 := (List.getElem?_eq_some_iff.1 h).1
  simp [urF] at h1
  rw [urF_get h1] at h
  exact ⟨h1, (Option.some.inj h).symm⟩
structure CG (w : World) (c n k gu gh : Nat) (av : Value) (ar : List Value) (CC : List (List Nat)) (hs : Nat → Bool) (ro : Nat → Value) (rl : Nat → List Nat) (S : Nat → Prop) : Prop where
  blk : w.heap[c]? = some (.cells (cgCells ro av gu gh n k).toArray 84 (0, 0))
  uu : w.heap[gu]? = some (.cells (urF ro n).toArray 56 (0, 0))
  rows : ∀ j, j < n + 3 → w.ownsRow 0 3 1 (ro j) (rl j).length (ints (rl j))
  ap : ∀ i j, i < n + 3 → j < n + 3 → i ≠ j → ∀ g, (ro i).ownBlock = some g → (ro j).ownBlock ≠ some g
  ad : w.ownsRow 0 56 1 av CC.length ar
  ai : ∀ (i : Nat) (v : Value) (q : List Nat), ar[i]? = some v → CC[i]? = some q → Rd w v (ints q) ∧ ∀ g, v.ownBlock = some g → g < w.heap.size ∧ ¬ S g
  ha : w.heap[gh]? = some (.cells (bools n hs).toArray 4 (0, 0))
  sc : S c
  su : S gu
  sh : S gh
  sr : ∀ j, j < n + 3 → ∀ g, (ro j).ownBlock = some g → S g
  sa : ∀ g, av.ownBlock = some g → S g
  au : ∀ g, av.ownBlock = some g → g ≠ gu
  sz : ∀ g, S g → g < w.heap.size
section
variable {w w' w1 w2 : World} {c n k gu gh : Nat} {av : Value} {ar : List Value} {CC : List (List Nat)} {hs : Nat → Bool} {ro : Nat → Value} {rl : Nat → List Nat} {S : Nat → Prop}
theorem CG.same (h : CG w c n k gu gh av ar CC hs ro rl S) (hb : Below w.heap.size w w') : CG w' c n k gu gh av ar CC hs ro rl S :=
  ⟨(hb.block _ (h.sz _ h.sc)).trans h.blk, (hb.block _ (h.sz _ h.su)).trans h.uu, fun j hj => own_same (h.rows j hj) fun g hg => hb.block g (own_lt (h.rows j hj) hg), h.ap, own_same h.ad fun g hg => hb.block g (own_lt h.ad hg),
   fun i v q hv hq => ⟨(h.ai i v q hv hq).1.at hb, fun g hg => ⟨Nat.lt_of_lt_of_le ((h.ai i v q hv hq).2 g hg).1 hb.size, ((h.ai i v q hv hq).2 g hg).2⟩⟩, (hb.block _ (h.sz _ h.sh)).trans h.ha, h.sc, h.su, h.sh, h.sr, h.sa, h.au, fun g hg => Nat.lt_of_lt_of_le (h.sz g hg) hb.size⟩
/-- Where the row j stands. -/
def pcB (c gu j : Nat) : Nat := if j < 3 then c else gu
def pcO (j : Nat) : Nat := if j = 0 then 0 else if j = 1 then 3 else if j = 2 then 5 else j - 3
def upd {α : Type} (f : Nat → α) (j : Nat) (v : α) : Nat → α := fun i => if i = j then v else f i
theorem upd_self {α : Type} (f : Nat → α) (j : Nat) (v : α) : upd f j v j = v := by simp [upd]
theorem upd_ne {α : Type} (f : Nat → α) {j i : Nat} (v : α) (h : i ≠ j) : upd f j v i = f i := by simp [upd, h]
theorem rd_far {w w3 : World} {v : Value} {xs : List Value} (hr : Rd w v xs) (hz : w.heap.size ≤ w3.heap.size) (hn : ∀ g, v.ownBlock = some g → g < w.heap.size → w3.heap[g]? = w.heap[g]?) : Rd w3 v xs := by
  obtain ⟨ao, cap, rfl, h2, h3, h4⟩ := hr
  refine ⟨ao, cap, rfl, h2, h3, fun h0 => ?_⟩
  obtain ⟨g, o, rfl, q2, q3⟩ := h4 h0
  refine ⟨g, o, rfl, by omega, fun i u hu => ?_⟩
  have := q3 i u hu
  unfold World.cell? at this ⊢
  rw [hn g rfl q2]
  exact this
/-- The struct and the row of rows behind an append onto row j. -/
theorem CG.behind (h : CG w c n k gu gh av ar CC hs ro rl S) {j : Nat} (hj : j < n + 3) (hb : Below w.heap.size w w1) (hg : w1.grownBy w2 (ro j).ownBlock) :
    w2.heap[c]? = some (.cells (cgCells ro av gu gh n k).toArray 84 (0, 0)) ∧ w2.heap[gu]? = some (.cells (urF ro n).toArray 56 (0, 0)) := by
  have hz := hb.size
  constructor
  · rw [hg.block c (by have := h.sz _ h.sc; omega) (fun e => own_ne (h.rows j hj) e.symm h.blk (by decide) rfl), hb.block c (h.sz _ h.sc)]
    exact h.blk
  · rw [hg.block gu (by have := h.sz _ h.su; omega) (fun e => own_ne (h.rows j hj) e.symm h.uu (by decide) rfl), hb.block gu (h.sz _ h.su)]
    exact h.uu
/-- append of one number onto row j, and the store of what came of it. -/
theorem CG.push (h : CG w c n k gu gh av ar CC hs ro rl S) {j : Nat} (hj : j < n + 3) {x : Nat} {v' : Value} (hb : Below w.heap.size w w1) (hown : w2.ownsRow 0 3 1 v' ((rl j).length + 1) (ints (rl j) ++ [.int .i64 (x : Int)])) (hg : w1.grownBy w2 (ro j).ownBlock)
    (hf : v'.ownBlock = (ro j).ownBlock ∨ v'.ownBlock = some w1.heap.size) :
    CG (w2.setCell ⟨pcB c gu j, pcO j, none⟩ v') c n k gu gh av ar CC hs (upd ro j v') (upd rl j (rl j ++ [x])) (fun g => S g ∨ v'.ownBlock = some g) ∧ Chg S (fun g => S g ∨ v'.ownBlock = some g) w (w2.setCell ⟨pcB c gu j, pcO j, none⟩ v') := by
  have hz := hb.size
  have hz2 := hg.size
  obtain ⟨hc2, hu2⟩ := h.behind hj hb hg
  have hcu : c ≠ gu := blk_ne h.blk h.uu (by decide)
  have hP : ∀ {P : Nat → Prop}, P c → P gu → P (pcB c gu j) := fun h1 h2 => by unfold pcB; split <;> assumption
  have o : ∀ a, a < w.heap.size → a ≠ pcB c gu j → (ro j).ownBlock ≠ some a → (w2.setCell ⟨pcB c gu j, pcO j, none⟩ v').heap[a]? = w.heap[a]? := fun a h1 h2 h3 => by
    rw [set_other h2, hg.block a (by omega) (fun e => h3 e.symm), hb.block a h1]
  have hnew : ∀ g, v'.ownBlock = some g → S g ∨ w.heap.size ≤ g := fun g hg2 => by
    rcases hf with hf | hf
    · exact .inl (h.sr j hj g (by rw [← hf]; exact hg2))
    · rw [hf] at hg2; simp only [Option.some.injEq] at hg2; exact .inr (by omega)
  have hlow : ∀ g, g < w.heap.size → (ro j).ownBlock ≠ some g → v'.ownBlock ≠ some g := fun g hl hne e => by
    rcases hf with hf | hf
    · exact hne (by rw [← hf]; exact e)
    · rw [hf] at e; simp only [Option.some.injEq] at e; omega
  have tI : ∀ i, i < n + 3 → ∀ a, (ro i).ownBlock = some a → a ≠ pcB c gu j := fun i hi a ha => hP (P := fun b => a ≠ b) (own_ne (h.rows i hi) ha h.blk (by decide)) (own_ne (h.rows i hi) ha h.uu (by decide))
  refine ⟨⟨?_, ?_, fun i hi => ?_, fun i i2 hi hi2 hne g hgi => ?_, own_same h.ad fun a ha => o a (own_lt h.ad ha) (hP (P := fun b => a ≠ b) (own_ne h.ad ha h.blk (by decide)) (h.au a ha)) (own_type h.ad ha (h.rows j hj) (by decide)),
    fun i v q hv hq => ?_, ?_, .inl h.sc, .inl h.su, .inl h.sh, fun i hi g hgi => ?_, fun g hg2 => .inl (h.sa g hg2), h.au, fun g hg2 => ?_⟩, ?_⟩
  · by_cases h3 : j < 3
    · have e : pcB c gu j = c := by simp [pcB, h3]
      have hb2 := blk_setCell (k := pcO j) (u := v') hc2
      rw [e]
      refine hb2.trans ?_
      congr 3
      rcases (show j = 0 ∨ j = 1 ∨ j = 2 by omega) with rfl | rfl | rfl <;> simp [cgCells, upd, pcO]
    · have e : pcB c gu j = gu := by simp [pcB, h3]
      rw [e, set_other hcu, hc2]
      congr 3
      simp [cgCells, upd, show (0 : Nat) ≠ j by omega, show (1 : Nat) ≠ j by omega, show (2 : Nat) ≠ j by omega]
  · by_cases h3 : j < 3
    · have e : pcB c gu j = c := by simp [pcB, h3]
      rw [e, set_other hcu.symm, hu2]
      congr 3
      exact List.map_congr_left fun i hi => by rw [upd_ne _ _ (by omega)]
    · have e : pcB c gu j = gu := by simp [pcB, h3]
      have hb2 := blk_setCell (k := pcO j) (u := v') hu2
      rw [e]
      refine hb2.trans ?_
      congr 3
      have e2 : pcO j = j - 3 := by unfold pcO; rw [if_neg (by omega), if_neg (by omega), if_neg (by omega)]
      rw [e2]
      apply List.ext_getElem?
      intro i
      rw [List.getElem?_set]
      by_cases hi : i < n
      · by_cases ei : j - 3 = i
        · subst ei; rw [if_pos rfl, if_pos (by simp [urF]; omega), urF_get (by omega), show 3 + (j - 3) = j by omega, upd_self]
        · rw [if_neg ei, urF_get hi, urF_get hi, upd_ne _ _ (by omega)]
      · by_cases ei : j - 3 = i
        · omega
        · rw [if_neg ei, List.getElem?_eq_none (by simp [urF]; omega), List.getElem?_eq_none (by simp [urF]; omega)]
  · by_cases e : i = j
    · subst e
      rw [upd_self, upd_self, List.length_append, List.length_singleton, ints_append]
      exact own_same hown fun a ha => set_other (fun e2 => by
        obtain ⟨cur, hcu2⟩ := own_blk hown ha
        rw [e2] at hcu2
        have := hP (P := fun b => ∃ cs t, w2.heap[b]? = some (.cells cs t (0, 0)) ∧ t ≠ 3) ⟨_, _, hc2, by decide⟩ ⟨_, _, hu2, by decide⟩
        obtain ⟨cs, t, h5, h6⟩ := this
        rw [hcu2] at h5
        simp only [Option.some.injEq, Obj.cells.injEq] at h5
        exact h6 h5.2.1.symm)
    · rw [upd_ne _ _ e, upd_ne _ _ e]
      exact own_same (h.rows i hi) fun a ha => o a (own_lt (h.rows i hi) ha) (tI i hi a ha) (h.ap i j hi hj e a ha)
  · by_cases e : i = j
    · subst e
      rw [upd_self] at hgi
      rw [upd_ne _ _ (Ne.symm hne)]
      intro h5
      rcases hf with hf | hf
      · exact h.ap i i2 hi hi2 hne g (by rw [← hf]; exact hgi) h5
      · rw [hf] at hgi; simp only [Option.some.injEq] at hgi
        have := own_lt (h.rows i2 hi2) h5; omega
    · rw [upd_ne _ _ e] at hgi
      by_cases e2 : i2 = j
      · subst e2; rw [upd_self]; exact hlow g (own_lt (h.rows i hi) hgi) (h.ap i i2 hi hi2 hne g hgi)
      · rw [upd_ne _ _ e2]; exact h.ap i i2 hi hi2 hne g hgi
  · obtain ⟨q1, q2⟩ := h.ai i v q hv hq
    refine ⟨rd_far q1 (by simp; omega) fun g hg2 hl => o g hl (hP (P := fun b => g ≠ b) (fun e => (q2 g hg2).2 (e ▸ h.sc)) (fun e => (q2 g hg2).2 (e ▸ h.su))) (fun e => (q2 g hg2).2 (h.sr j hj g e)), fun g hg2 => ⟨by have := (q2 g hg2).1; simp; omega, fun hs2 => ?_⟩⟩
    rcases hs2 with hs2 | hs2
    · exact (q2 g hg2).2 hs2
    · rcases hnew g hs2 with h5 | h5
      · exact (q2 g hg2).2 h5
      · have := (q2 g hg2).1; omega
  · exact (o _ (h.sz _ h.sh) (hP (P := fun b => gh ≠ b) (blk_ne h.ha h.blk (by decide)) (blk_ne h.ha h.uu (by decide))) (fun e => own_ne (h.rows j hj) e h.ha (by decide) rfl)).trans h.ha
  · by_cases e : i = j
    · subst e; rw [upd_self] at hgi; exact .inr hgi
    · rw [upd_ne _ _ e] at hgi; exact .inl (h.sr i hi g hgi)
  · rcases hg2 with hg2 | hg2
    · have := h.sz g hg2; simp; omega
    · have := own_lt hown hg2; simpa using this
  · refine ⟨⟨hg.os.trans hb.os, hg.tape.trans hb.tape, hg.output.trans hb.output, by simp; omega, fun g h1 h2 => o g h1 (hP (P := fun b => g ≠ b) (fun e => h2 (e ▸ h.sc)) (fun e => h2 (e ▸ h.su))) (fun e => h2 (h.sr j hj g e))⟩, fun g hg2 => ?_⟩
    rcases hg2 with hg2 | hg2
    · exact .inl hg2
    · exact hnew g hg2
/-- append of a row onto adds, and the store of what came of it. -/
theorem CG.pushA (h : CG w c n k gu gh av ar CC hs ro rl S) {cv v' : Value} {q : List Nat} (hq : Rd w cv (ints q)) (hqb : ∀ g, cv.ownBlock = some g → g < w.heap.size ∧ ¬ S g) (hal : ar.length = CC.length) (hb : Below w.heap.size w w1) (hown : w2.ownsRow 0 56 1 v' (CC.length + 1) (ar ++ [cv])) (hg : w1.grownBy w2 av.ownBlock)
    (hf : v'.ownBlock = av.ownBlock ∨ v'.ownBlock = some w1.heap.size) :
    CG (w2.setCell ⟨c, 2, none⟩ v') c n k gu gh v' (ar ++ [cv]) (CC ++ [q]) hs ro rl (fun g => S g ∨ v'.ownBlock = some g) ∧ Chg S (fun g => S g ∨ v'.ownBlock = some g) w (w2.setCell ⟨c, 2, none⟩ v') := by
  have hz := hb.size
  have hz2 := hg.size
  have hc2 : w2.heap[c]? = some (.cells (cgCells ro av gu gh n k).toArray 84 (0, 0)) := by
    rw [hg.block c (by have := h.sz _ h.sc; omega) (fun e => own_ne h.ad e.symm h.blk (by decide) rfl), hb.block c (h.sz _ h.sc)]
    exact h.blk
  have o : ∀ a, a < w.heap.size → a ≠ c → av.ownBlock ≠ some a → (w2.setCell ⟨c, 2, none⟩ v').heap[a]? = w.heap[a]? := fun a h1 h2 h3 => by
    rw [set_other h2, hg.block a (by omega) (fun e => h3 e.symm), hb.block a h1]
  have hnew : ∀ g, v'.ownBlock = some g → S g ∨ w.heap.size ≤ g := fun g hg2 => by
    rcases hf with hf | hf
    · exact .inl (h.sa g (by rw [← hf]; exact hg2))
    · rw [hf] at hg2; simp only [Option.some.injEq] at hg2; exact .inr (by omega)
  have hrd : ∀ v xs, Rd w v xs → (∀ g, v.ownBlock = some g → g < w.heap.size ∧ ¬ S g) → Rd (w2.setCell ⟨c, 2, none⟩ v') v xs ∧ ∀ g, v.ownBlock = some g → g < (w2.setCell ⟨c, 2, none⟩ v').heap.size ∧ ¬ (S g ∨ v'.ownBlock = some g) := fun v xs q1 q2 =>
    ⟨rd_far q1 (by simp; omega) fun g hg2 hl => o g hl (fun e => (q2 g hg2).2 (e ▸ h.sc)) (fun e => (q2 g hg2).2 (h.sa g e)), fun g hg2 => ⟨by have := (q2 g hg2).1; simp; omega, fun hs2 => by
      rcases hs2 with hs2 | hs2
      · exact (q2 g hg2).2 hs2
      · rcases hnew g hs2 with h5 | h5
        · exact (q2 g hg2).2 h5
        · have := (q2 g hg2).1; omega⟩⟩
  refine ⟨⟨?_, ?_, fun i hi => own_same (h.rows i hi) fun a ha => o a (own_lt (h.rows i hi) ha) (own_ne (h.rows i hi) ha h.blk (by decide)) (own_type (h.rows i hi) ha h.ad (by decide)), h.ap, ?_, fun i v q2 hv hq2 => ?_, ?_, .inl h.sc, .inl h.su, .inl h.sh, fun i hi g hg2 => .inl (h.sr i hi g hg2), fun g hg2 => .inr hg2, fun g hg2 => ?_, fun g hg2 => ?_⟩, ?_⟩
  · exact blk_setCell (k := 2) (u := v') hc2
  · exact (o _ (h.sz _ h.su) (blk_ne h.uu h.blk (by decide)) (fun e => h.au _ e rfl)).trans h.uu
  · rw [List.length_append, List.length_singleton]
    exact own_same hown fun a ha => set_other (fun e => by
      obtain ⟨cur, hcu2⟩ := own_blk hown ha
      rw [e, hc2] at hcu2
      simp only [Option.some.injEq, Obj.cells.injEq] at hcu2
      exact absurd hcu2.2.1 (by decide))
  · by_cases hi : i < CC.length
    · rw [List.getElem?_append_left (by omega)] at hv
      rw [List.getElem?_append_left hi] at hq2
      obtain ⟨q3, q4⟩ := h.ai i v q2 hv hq2
      exact hrd v _ q3 q4
    · have e : i = CC.length := by have := (List.getElem?_eq_some_iff.1 hq2).1; simp at this; omega
      subst e
      rw [List.getElem?_append_right (by omega)] at hv
      rw [List.getElem?_append_right (Nat.le_refl _)] at hq2
      simp [hal] at hv hq2
      subst hv hq2
      exact hrd _ _ hq hqb
  · exact (o _ (h.sz _ h.sh) (blk_ne h.ha h.blk (by decide)) (fun e => own_ne h.ad e h.ha (by decide) rfl)).trans h.ha
  · rcases hf with hf | hf
    · exact h.au g (by rw [← hf]; exact hg2)
    · rw [hf] at hg2; simp only [Option.some.injEq] at hg2
      have := h.sz _ h.su; omega
  · rcases hg2 with hg2 | hg2
    · have := h.sz g hg2; simp; omega
    · have := own_lt hown hg2; simpa using this
  · refine ⟨⟨hg.os.trans hb.os, hg.tape.trans hb.tape, hg.output.trans hb.output, by simp; omega, fun g h1 h2 => o g h1 (fun e => h2 (e ▸ h.sc)) (fun e => h2 (h.sa g e))⟩, fun g hg2 => ?_⟩
    rcases hg2 with hg2 | hg2
    · exact .inl hg2
    · exact hnew g hg2
theorem CG.congr (h : CG w c n k gu gh av ar CC hs ro rl S) {rl' : Nat → List Nat} (he : ∀ j, j < n + 3 → rl j = rl' j) : CG w c n k gu gh av ar CC hs ro rl' S :=
  { h with rows := fun j hj => by rw [← he j hj]; exact h.rows j hj }
/-- The family of a chase. -/
def roF (V : CV) (j : Nat) : Value := if j = 0 then V.fv else if j = 1 then V.lv else if j = 2 then V.tv else (V.ur[j - 3]?).getD (.slice none 0 0)
def rlF (R : List Hrl) (lk : Nat → Nat) (T : List Nat) (j : Nat) : List Nat := if j = 0 then freeF R else if j = 1 then (List.range R.length).map lk else if j = 2 then T else usesF R (j - 3)
theorem roF_u {V : CV} {i : Nat} {v : Value} (h : V.ur[i]? = some v) : roF V (3 + i) = v := by
  unfold roF
  rw [if_neg (by omega), if_neg (by omega), if_neg (by omega), show 3 + i - 3 = i by omega, h]
  rfl
theorem urF_roF {V : CV} {n : Nat} (h : V.ur.length = n) : urF (roF V) n = V.ur := by
  apply List.ext_getElem?
  intro i
  by_cases hi : i < n
  · rw [urF_get hi]
    obtain ⟨v, hv⟩ : ∃ v, V.ur[i]? = some v := ⟨_, List.getElem?_eq_getElem (by omega)⟩
    rw [hv, roF_u hv]
  · rw [List.getElem?_eq_none (by simp [urF]; omega), List.getElem?_eq_none (by omega)]
theorem CH.toG {R : List Hrl} {lk : Nat → Nat} {T : List Nat} {V : CV} (h : CH w c n R lk hs T k V S) : CG w c n k V.gu V.gh V.av V.ar (R.map Prod.snd) hs (roF V) (rlF R lk T) S := by
  have hu : ∀ j, j < n + 3 → ¬ j < 3 → ∃ v, V.ur[j - 3]? = some v ∧ roF V j = v := fun j hj h3 => by
    obtain ⟨v, hv⟩ : ∃ v, V.ur[j - 3]? = some v := ⟨_, List.getElem?_eq_getElem (by rw [h.ul]; omega)⟩
    exact ⟨v, hv, by have := roF_u hv; rwa [show 3 + (j - 3) = j by omega] at this⟩
  have c3 : ∀ {j : Nat}, j < 3 → j = 0 ∨ j = 1 ∨ j = 2 := fun h => by omega
  refine ⟨h.blk, by rw [urF_roF h.ul]; exact h.uu, fun j hj => ?_, fun i j hi hj hne g hg => ?_, by rw [List.length_map]; exact h.ad, fun i v q hv hq => ?_, h.ha, h.sc, h.su, h.sh, fun j hj g hg => ?_, h.sa, h.au, h.sz⟩
  · by_cases h3 : j < 3
    · rcases c3 h3 with rfl | rfl | rfl
      · exact h.fr
      · have := h.la
        simp only [roF, rlF]
        simpa [lks] using this
      · exact h.tr
    · obtain ⟨v, hv, e⟩ := hu j hj h3
      rw [e]
      have : rlF R lk T j = usesF R (j - 3) := by unfold rlF; rw [if_neg (by omega), if_neg (by omega), if_neg (by omega)]
      rw [this]
      exact h.us _ v hv
  · by_cases hi3 : i < 3
    · by_cases hj3 : j < 3
      · rcases c3 hi3 with rfl | rfl | rfl <;> rcases c3 hj3 with rfl | rfl | rfl
        · exact absurd rfl hne
        · exact h.fl g hg
        · exact h.ft g hg
        · exact fun e => h.fl g e hg
        · exact absurd rfl hne
        · exact h.lt g hg
        · exact fun e => h.ft g e hg
        · exact fun e => h.lt g e hg
        · exact absurd rfl hne
      · obtain ⟨v, hv, e⟩ := hu j hj hj3
        rw [e]
        rcases c3 hi3 with rfl | rfl | rfl
        · exact fun e2 => h.rf _ v hv g e2 hg
        · exact fun e2 => h.rl _ v hv g e2 hg
        · exact fun e2 => h.rt _ v hv g e2 hg
    · obtain ⟨u, hu2, e⟩ := hu i hi hi3
      rw [e] at hg
      by_cases hj3 : j < 3
      · rcases c3 hj3 with rfl | rfl | rfl
        · exact h.rf _ u hu2 g hg
        · exact h.rl _ u hu2 g hg
        · exact h.rt _ u hu2 g hg
      · obtain ⟨v, hv, e2⟩ := hu j hj hj3
        rw [e2]
        exact h.rr _ _ u v (by omega) hu2 hv g hg
  · rw [List.getElem?_map] at hq
    cases hR : R[i]? with
    | none => rw [hR] at hq; cases hq
    | some r =>
      rw [hR] at hq
      simp at hq
      subst hq
      have := h.ai i v hv
      rw [conc_of hR] at this
      exact this
  · by_cases h3 : j < 3
    · rcases c3 h3 with rfl | rfl | rfl
      · exact h.sf g hg
      · exact h.sl g hg
      · exact h.st g hg
    · obtain ⟨v, hv, e⟩ := hu j hj h3
      rw [e] at hg
      exact h.sr _ v hv g hg
theorem CG.toH {R : List Hrl} {lk : Nat → Nat} {T : List Nat} (h : CG w c n k gu gh av ar (R.map Prod.snd) hs ro (rlF R lk T) S) (nd : T.Nodup) (tn : ∀ x ∈ T, x < n) (rn : ∀ i x, i < R.length → x ∈ conc R i → x < n) (pn : ∀ i, i < R.length → (prem R i).Nodup ∧ ∀ x ∈ prem R i, x < n) (hal : ar.length = R.length) :
    CH w c n R lk hs T k ⟨ro 0, av, ro 1, ro 2, gu, gh, urF ro n, ar⟩ S := by
  have r0 := h.rows 0 (by omega)
  have r1 := h.rows 1 (by omega)
  have r2 := h.rows 2 (by omega)
  refine ⟨h.blk, r0, h.uu, by simp [urF], fun i v hv => ?_, by have := h.ad; rwa [List.length_map] at this, fun i v hv => ?_, ?_, h.ha, r2, h.sc, h.sr 0 (by omega), h.su, fun i v hv g hg => ?_, h.sa, h.sr 1 (by omega), h.sh, h.sr 2 (by omega), h.ap 0 1 (by omega) (by omega) (by omega), h.ap 0 2 (by omega) (by omega) (by omega), h.ap 1 2 (by omega) (by omega) (by omega),
    fun i v hv g hg => ?_, fun i v hv g hg => ?_, fun i v hv g hg => ?_, fun i j u v hne hu hv g hg => ?_, h.au, h.sz, nd, tn, rn, pn⟩
  · obtain ⟨hi, rfl⟩ := urF_inv hv
    have := h.rows (3 + i) (by omega)
    have e : rlF R lk T (3 + i) = usesF R i := by unfold rlF; rw [if_neg (by omega), if_neg (by omega), if_neg (by omega), show 3 + i - 3 = i by omega]
    rw [e] at this
    exact this
  · have hi9 : i < ar.length := (List.getElem?_eq_some_iff.1 hv).1
    have hi : i < R.length := by omega
    have hR : R[i]? = some R[i] := List.getElem?_eq_getElem hi
    have := h.ai i v R[i].2 hv (by simp [hR])
    rw [conc_of hR]; exact this
  · have e : rlF R lk T 1 = (List.range R.length).map lk := rfl
    rw [e] at r1
    simpa [lks] using r1
  · obtain ⟨hi, rfl⟩ := urF_inv hv
    exact h.sr (3 + i) (by omega) g hg
  · obtain ⟨hi, rfl⟩ := urF_inv hv
    exact h.ap (3 + i) 0 (by omega) (by omega) (by omega) g hg
  · obtain ⟨hi, rfl⟩ := urF_inv hv
    exact h.ap (3 + i) 1 (by omega) (by omega) (by omega) g hg
  · obtain ⟨hi, rfl⟩ := urF_inv hv
    exact h.ap (3 + i) 2 (by omega) (by omega) (by omega) g hg
  · obtain ⟨hi, rfl⟩ := urF_inv hu
    obtain ⟨hj, rfl⟩ := urF_inv hv
    exact h.ap (3 + i) (3 + j) (by omega) (by omega) (by omega) g hg
end
end Go.Proofs.Ytedohggbpmcehaa

/- addRule: a rule is added to a chase all of whose names are counted. Bounds on sizes alone. -/
namespace Go.Proofs.Ytedohggbpmcehaa
open Go.RowKit

theorem rowsE : Elem Try.prog 81 56 (.slice none 0 0) 24 := ⟨Try.underlying81, by kernel_rfl, rfl⟩
theorem src_one {P : Program} {S E : TypeId} {z : Value} {eb : Nat} (T : Elem P S E z eb) {w : World} {g : Nat} {u : Value} (hc : w.cell? ⟨g, 0, none⟩ = some u) (hu : u.oneCell' = true) : Src P 1 S (.slice (some ⟨g, 0, none⟩) 1 1) 1 [u] w := by
  refine Src.ofSlice _ T.und ⟨g, 0, none⟩ 1 1 _ rfl (fun j v hv => ?_) (by intro v hv; rw [List.mem_singleton.1 hv]; exact hu)
  have : j = 0 := by have := (List.getElem?_eq_some_iff.1 hv).1; simp at this; omega
  subst this
  rw [Addr.add_mid, Nat.zero_add]
  simp only [List.getElem?_cons_zero, Option.some.injEq] at hv
  rw [← hv]; exact hc
/-- append of one cell onto a row of the call's own, inside a region that draws its order. -/
theorem step_own {P : Program} {S E : TypeId} {z : Value} {eb : Nat} (T : Elem P S E z eb) {ops : Array Oper} {o : Oper} {a : Act} {w : World} {K : Act → World → Prop} {Q : Exit → Act → World → Prop} {F : Prop} (hgd : o.guard = none) (s x : Operand)
    (ho : o.op = .call { callee := .builtin .append, args := #[s, x], argTypes := #[S, S] })
    (v : Value) (n : Nat) (xs : List Value) (hv : a.eval s = v) (hown : w.ownsRow 0 E 1 v n xs) (g : Nat) (u : Value) (hx : a.eval x = .slice (some ⟨g, 0, none⟩) 1 1) (hc : w.cell? ⟨g, 0, none⟩ = some u) (hu : u.oneCell' = true) (hl : (n + 1) * eb ≤ 140737488355328) (hl2 : n ≤ 140737488355328)
    (h : ∀ (ao : Option Addr) (cap m : Nat) (w' : World), m = n + 1 → w'.ownsRow 0 E 1 (.slice ao m cap) m (xs ++ [u]) → w.grownBy w' v.ownBlock → ((Value.slice ao m cap).ownBlock = v.ownBlock ∨ (Value.slice ao m cap).ownBlock = some w.heap.size) → K (a.put o.dst (.slice ao m cap)) w') :
    if Region.wanted o (yielded ops a.tmps) = true then Oper.wp P o a w K Q else F := by
  obtain ⟨i0, hi, hz0, hz1, hz2⟩ := info_parts T.info
  refine step_append_src _ hgd s x S S ho 0 E i0 z 1 eb T.und hi hz0 hz1 hz2 T.one (by decide) v n xs hv hown _ 1 [u] hx (src_one T hc hu) (by unfold maxLen; omega) (by omega) (Nat.zero_le _) ?_
  intro v2 w2 hown2 hg _ hf
  obtain ⟨ao, cap, rfl⟩ := own_shape hown2
  exact h ao cap _ w2 rfl hown2 hg hf
/-- The same, in a region that does not. -/
theorem wpList_own {P : Program} {S E : TypeId} {z : Value} {eb : Nat} (T : Elem P S E z eb) {ops : Array Oper} {rest : List Oper} {o : Oper} {a : Act} {w : World} {Q : Exit → Act → World → Prop} (hgd : o.guard = none) (s x : Operand)
    (ho : o.op = .call { callee := .builtin .append, args := #[s, x], argTypes := #[S, S] })
    (v : Value) (n : Nat) (xs : List Value) (hv : a.eval s = v) (hown : w.ownsRow 0 E 1 v n xs) (g : Nat) (u : Value) (hx : a.eval x = .slice (some ⟨g, 0, none⟩) 1 1) (hc : w.cell? ⟨g, 0, none⟩ = some u) (hu : u.oneCell' = true) (hl : (n + 1) * eb ≤ 140737488355328) (hl2 : n ≤ 140737488355328)
    (h : ∀ (ao : Option Addr) (cap m : Nat) (w' : World), m = n + 1 → w'.ownsRow 0 E 1 (.slice ao m cap) m (xs ++ [u]) → w.grownBy w' v.ownBlock → ((Value.slice ao m cap).ownBlock = v.ownBlock ∨ (Value.slice ao m cap).ownBlock = some w.heap.size) → wpList P ops Q rest (a.put o.dst (.slice ao m cap)) w') :
    wpList P ops Q (o :: rest) a w := by
  obtain ⟨i0, hi, hz0, hz1, hz2⟩ := info_parts T.info
  refine wpList_append_src _ hgd s x S S ho 0 E i0 z 1 eb T.und hi hz0 hz1 hz2 T.one (by decide) v n xs hv hown _ 1 [u] hx (src_one T hc hu) (by unfold maxLen; omega) (by omega) (Nat.zero_le _) ?_
  intro v2 w2 hown2 hg _ hf
  obtain ⟨ao, cap, rfl⟩ := own_shape hown2
  exact h ao cap _ w2 rfl hown2 hg hf

/-- The rows of numbers while the rule m with premises p is added. -/
def rlS (R : List Hrl) (lk : Nat → Nat) (T : List Nat) (m : Nat) (p x0 : List Nat) (j : Nat) (x1 : List Nat) (i : Nat) : List Nat :=
  if i = 0 then freeF R ++ x0 else if i = 1 then (List.range R.length).map lk ++ x1 else if i = 2 then T else usesF R (i - 3) ++ (if i - 3 ∈ p.take j then [m] else [])
theorem rlS_start (R : List Hrl) (lk : Nat → Nat) (T : List Nat) (m : Nat) (p : List Nat) (i : Nat) : rlF R lk T i = rlS R lk T m p [] 0 [] i := by
  unfold rlF rlS
  split <;> simp
theorem rlS_free (R : List Hrl) (lk : Nat → Nat) (T : List Nat) (m : Nat) (p : List Nat) (i : Nat) : upd (rlS R lk T m p [] 0 []) 0 (rlS R lk T m p [] 0 [] 0 ++ [m]) i = rlS R lk T m p [m] 0 [] i := by
  by_cases e : i = 0
  · subst e; rw [upd_self]; simp [rlS]
  · rw [upd_ne _ _ e]; simp [rlS, e]
theorem rlS_next {R : List Hrl} {lk : Nat → Nat} {T : List Nat} {m : Nat} {p x0 : List Nat} {j a : Nat} (hp : p.Nodup) (ha : p[j]? = some a) (i : Nat) : upd (rlS R lk T m p x0 j []) (3 + a) (rlS R lk T m p x0 j [] (3 + a) ++ [m]) i = rlS R lk T m p x0 (j + 1) [] i := by
  by_cases e : i = 3 + a
  · subst e
    rw [upd_self]
    have g : ∀ j, rlS R lk T m p x0 j [] (3 + a) = usesF R a ++ (if a ∈ p.take j then [m] else []) := fun j => by
      unfold rlS
      rw [if_neg (by omega), if_neg (by omega), if_neg (by omega), show 3 + a - 3 = a by omega]
    rw [g, g, if_neg (not_take hp ha), take_snoc_get ha]
    simp
  · rw [upd_ne _ _ e]
    unfold rlS
    rw [take_snoc_get ha]
    by_cases h0 : i = 0
    · simp [h0]
    by_cases h1 : i = 1
    · simp [h1]
    by_cases h2 : i = 2
    · simp [h2]
    · have : i - 3 ≠ a := by omega
      simp [h0, h1, h2, this]
theorem rlS_lack (R : List Hrl) (lk : Nat → Nat) (T : List Nat) (m : Nat) (p x0 : List Nat) (j y : Nat) (i : Nat) : upd (rlS R lk T m p x0 j []) 1 (rlS R lk T m p x0 j [] 1 ++ [y]) i = rlS R lk T m p x0 j [y] i := by
  by_cases e : i = 1
  · subst e; rw [upd_self]; simp [rlS]
  · rw [upd_ne _ _ e]; simp [rlS, e]
theorem prem_snoc (R : List Hrl) (r : Hrl) (i : Nat) : prem (R ++ [r]) i = if i < R.length then prem R i else if i = R.length then r.1 else [] := by
  unfold prem
  by_cases h : i < R.length
  · rw [if_pos h, List.getElem?_append_left h]
  · rw [if_neg h, List.getElem?_append_right (by omega)]
    by_cases e : i = R.length
    · subst e; simp
    · rw [if_neg e, List.getElem?_eq_none (by simp; omega)]; rfl
theorem conc_snoc (R : List Hrl) (r : Hrl) (i : Nat) : conc (R ++ [r]) i = if i < R.length then conc R i else if i = R.length then r.2 else [] := by
  unfold conc
  by_cases h : i < R.length
  · rw [if_pos h, List.getElem?_append_left h]
  · rw [if_neg h, List.getElem?_append_right (by omega)]
    by_cases e : i = R.length
    · subst e; simp
    · rw [if_neg e, List.getElem?_eq_none (by simp; omega)]; rfl
theorem freeF_snoc (R : List Hrl) (r : Hrl) : freeF (R ++ [r]) = freeF R ++ (if r.1 = [] then [R.length] else []) := by
  unfold freeF
  rw [List.length_append, List.length_singleton, List.range_succ, List.filter_append]
  congr 1
  · apply List.filter_congr
    intro i hi
    rw [prem_snoc, if_pos (by simpa using hi)]
  · rw [List.filter_cons, List.filter_nil, prem_snoc, if_neg (Nat.lt_irrefl _), if_pos rfl]
    by_cases h : r.1 = [] <;> simp [h]
theorem usesF_snoc (R : List Hrl) (r : Hrl) (a : Nat) : usesF (R ++ [r]) a = usesF R a ++ (if a ∈ r.1 then [R.length] else []) := by
  unfold usesF
  rw [List.length_append, List.length_singleton, List.range_succ, List.filter_append]
  congr 1
  · apply List.filter_congr
    intro i hi
    rw [prem_snoc, if_pos (by simpa using hi)]
  · rw [List.filter_cons, List.filter_nil, prem_snoc, if_neg (Nat.lt_irrefl _), if_pos rfl]
    by_cases h : a ∈ r.1 <;> simp [h]
theorem lackR_snoc {R : List Hrl} {r : Hrl} {off : Nat → Nat} {T : List Nat} {i : Nat} (hi : i < R.length) : lackR (R ++ [r]) off T i = lackR R off T i := by
  unfold lackR
  rw [prem_snoc, if_pos hi]
theorem rlS_end (R : List Hrl) (off : Nat → Nat) (T p q : List Nat) (ho : off R.length = 0) (i : Nat) : rlS R (lackR R off T) T R.length p (if p = [] then [R.length] else []) p.length [lackF p T] i = rlF (R ++ [(p, q)]) (lackR (R ++ [(p, q)]) off T) T i := by
  unfold rlS rlF
  rw [List.take_length]
  by_cases h0 : i = 0
  · simp [h0, freeF_snoc]
  by_cases h1 : i = 1
  · rw [if_neg h0, if_pos h1, if_neg h0, if_pos h1, List.length_append, List.length_singleton, List.range_succ, List.map_append]
    congr 1
    · exact List.map_congr_left fun x hx => (lackR_snoc (by simpa using hx)).symm
    · simp [lackR, prem_snoc, ho]
  by_cases h2 : i = 2
  · simp [h2]
  · simp [h0, h1, h2, usesF_snoc]
theorem lackF_snoc (p T : List Nat) (a : Nat) : lackF (p ++ [a]) T = lackF p T + if a ∈ T then 0 else 1 := by
  unfold lackF
  rw [List.countP_append]
  by_cases h : a ∈ T <;> simp [h]

/-- What holds while a rule is added, since world w0: j premises are done. -/
def AdI (zb : Nat) (w0 : World) (c n k gu gh : Nat) (R : List Hrl) (lk : Nat → Nat) (T : List Nat) (p x0 : List Nat) (j : Nat) (x1 : List Nat) (CC : List (List Nat)) (S : Nat → Prop) (wr : World) : Prop :=
  ∃ ro av ar S', CG wr c n k gu gh av ar CC (memB T) ro (rlS R lk T R.length p x0 j x1) S' ∧ Chg S S' w0 wr ∧ ar.length = CC.length ∧ ∀ v ∈ ar, ∀ g, v.ownBlock = some g → zb ≤ g
end Go.Proofs.Ytedohggbpmcehaa

/- addRule: the walk. Bounds on sizes alone. -/
namespace Go.Proofs.Ytedohggbpmcehaa
open Go.RowKit

def AddP (zb : Nat) (w : World) (c n : Nat) (R : List Hrl) (off : Nat → Nat) (T p q : List Nat) (S : Nat → Prop) (e : Ending) (w' : World) : Prop :=
  e = .returned (.tuple #[]) ∧ ∃ V' S', CH w' c n (R ++ [(p, q)]) (lackR (R ++ [(p, q)]) off T) (memB T) T T.length V' S' ∧ Chg S S' w w' ∧ ∀ v ∈ V'.ar, ∀ g, v.ownBlock = some g → zb ≤ g
theorem alloc_cell {w : World} {b o : Nat} {v : Value} (ob : Obj) (h : w.cell? ⟨b, o, none⟩ = some v) : (w.alloc ob).cell? ⟨b, o, none⟩ = some v :=
  ((bel_alloc w ob).cell (p := ⟨b, o, none⟩) (World.block_lt_of_cell? w _ h)).trans h
theorem pcB_u (c gu a : Nat) : pcB c gu (3 + a) = gu := by unfold pcB; rw [if_neg (by omega)]
theorem pcO_u (a : Nat) : pcO (3 + a) = a := by unfold pcO; rw [if_neg (by omega), if_neg (by omega), if_neg (by omega)]; omega
section
variable {zb : Nat} {w0 wr : World} {c n k gu gh : Nat} {R : List Hrl} {lk : Nat → Nat} {T p x0 x1 : List Nat} {j : Nat} {CC : List (List Nat)} {S : Nat → Prop}
theorem alloc_drew (w : World) (o : Obj) : Below w.heap.size w (w.alloc o).drew := (bel_alloc w o).drew
theorem cell_new (w : World) (u : Value) (t : Nat) : (w.alloc (.cells #[u] t)).cell? ⟨w.heap.size, 0, none⟩ = some u := blk_cell (cs := [u]) (heap_alloc_new w (.cells #[u] t)) rfl
/-- The struct's row of rows. -/
theorem AdI.adds (h : AdI zb w0 c n k gu gh R lk T p x0 j x1 CC S wr) {m : Nat} (hmm : CC.length = m) {q : List Nat} {qo : Option Addr} {ql qc : Nat} (hS : ∀ g, S g → g < w0.heap.size) (hq : Rd w0 (.slice qo ql qc) (ints q)) (hqb : ∀ g, (Value.slice qo ql qc).ownBlock = some g → g < w0.heap.size ∧ ¬ S g) (hqz : ∀ g, (Value.slice qo ql qc).ownBlock = some g → zb ≤ g) :
    ∃ ao ac ar, wr.cell? ⟨c, 2, none⟩ = some (.slice ao m ac) ∧ (∀ b o, b < w0.heap.size → ¬ S b → w0.heap[b]? = some o → wr.heap[b]? = some o) ∧ (∀ w1, Below wr.heap.size wr w1 → w1.ownsRow 0 56 1 (.slice ao m ac) m ar) ∧
      ∀ w1 w4 ao2 cap2 m2, Below wr.heap.size wr w1 → m2 = m + 1 → w4.ownsRow 0 56 1 (.slice ao2 m2 cap2) m2 (ar ++ [.slice qo ql qc]) → w1.grownBy w4 (Value.slice ao m ac).ownBlock →
        ((Value.slice ao2 m2 cap2).ownBlock = (Value.slice ao m ac).ownBlock ∨ (Value.slice ao2 m2 cap2).ownBlock = some w1.heap.size) →
        (w4.cell? ⟨c, 2, none⟩ = some (.slice ao m ac) ∧ w4.frozen? ⟨c, 2, none⟩ = false) ∧ AdI zb w0 c n k gu gh R lk T p x0 j x1 (CC ++ [q]) S (w4.setCell ⟨c, 2, none⟩ (.slice ao2 m2 cap2)) := by
  subst hmm
  obtain ⟨ro, av, ar, S', h1, h2, h3⟩ := h
  obtain ⟨ao, ac, hav⟩ := own_shape h1.ad
  subst hav
  refine ⟨ao, ac, ar, blk_cell h1.blk rfl, fun b o hb hs ho => by rw [h2.kept.block b hb hs]; exact ho, fun w1 hb => own_same h1.ad fun g hg => hb.block g (own_lt h1.ad hg), fun w1 w4 ao2 cap2 m2 hb hm hown hg hf => ?_⟩
  subst hm
  have hqn : ∀ g, (Value.slice qo ql qc).ownBlock = some g → ¬ S' g := fun g hg2 h5 => by
    rcases h2.sub g h5 with h6 | h6
    · exact (hqb g hg2).2 h6
    · have := (hqb g hg2).1; omega
  obtain ⟨q1, q2⟩ := h1.pushA (q := q) (h2.rd hq fun g hg => (hqb g hg).2) (fun g hg2 => ⟨Nat.lt_of_lt_of_le (hqb g hg2).1 h2.kept.size, hqn g hg2⟩) h3.1 hb hown hg hf
  have hc2 : w4.heap[c]? = some (.cells (cgCells ro (.slice ao CC.length ac) gu gh n k).toArray 84 (0, 0)) := by
    rw [hg.block c (by have := h1.sz _ h1.sc; have := hb.size; omega) (fun e => own_ne h1.ad e.symm h1.blk (by decide) rfl), hb.block c (h1.sz _ h1.sc)]
    exact h1.blk
  exact ⟨⟨blk_cell hc2 rfl, blk_free hc2 2⟩, ro, _, _, _, q1, h2.trans q2, by simp [h3.1], fun v hv => by
    rcases List.mem_append.1 hv with hv | hv
    · exact h3.2 v hv
    · rw [List.mem_singleton.1 hv]; exact hqz⟩
/-- A row of the struct's own. -/
theorem AdI.row (h : AdI zb w0 c n k gu gh R lk T p x0 j x1 CC S wr) {i x : Nat} (hi : i < n + 3) {j' : Nat} {x0' x1' : List Nat} (hn : ∀ i', upd (rlS R lk T R.length p x0 j x1) i (rlS R lk T R.length p x0 j x1 i ++ [x]) i' = rlS R lk T R.length p x0' j' x1' i') :
    ∃ ao ac l, l = (rlS R lk T R.length p x0 j x1 i).length ∧ wr.cell? ⟨pcB c gu i, pcO i, none⟩ = some (.slice ao l ac) ∧ (∀ w1, Below wr.heap.size wr w1 → w1.ownsRow 0 3 1 (.slice ao l ac) l (ints (rlS R lk T R.length p x0 j x1 i))) ∧
      ∀ w1 w4 ao2 cap2 m2, Below wr.heap.size wr w1 → m2 = l + 1 → w4.ownsRow 0 3 1 (.slice ao2 m2 cap2) m2 (ints (rlS R lk T R.length p x0 j x1 i) ++ [.int .i64 (x : Int)]) → w1.grownBy w4 (Value.slice ao l ac).ownBlock →
        ((Value.slice ao2 m2 cap2).ownBlock = (Value.slice ao l ac).ownBlock ∨ (Value.slice ao2 m2 cap2).ownBlock = some w1.heap.size) →
        (w4.cell? ⟨pcB c gu i, pcO i, none⟩ = some (.slice ao l ac) ∧ w4.frozen? ⟨pcB c gu i, pcO i, none⟩ = false ∧ w4.cell? ⟨c, 1, none⟩ = some (.slice (some ⟨gu, 0, none⟩) n n)) ∧ AdI zb w0 c n k gu gh R lk T p x0' j' x1' CC S (w4.setCell ⟨pcB c gu i, pcO i, none⟩ (.slice ao2 m2 cap2)) := by
  obtain ⟨ro, av, ar, S', h1, h2, h3⟩ := h
  obtain ⟨ao, ac, hro⟩ := own_shape (h1.rows i hi)
  have hr := h1.rows i hi
  have hpc : ∀ (W : World), W.heap[c]? = some (.cells (cgCells ro av gu gh n k).toArray 84 (0, 0)) → W.heap[gu]? = some (.cells (urF ro n).toArray 56 (0, 0)) → W.cell? ⟨pcB c gu i, pcO i, none⟩ = some (ro i) ∧ W.frozen? ⟨pcB c gu i, pcO i, none⟩ = false := fun W e1 e2 => by
    by_cases h3 : i < 3
    · have e : pcB c gu i = c := by simp [pcB, h3]
      rw [e]
      refine ⟨blk_cell e1 ?_, blk_free e1 _⟩
      rcases (show i = 0 ∨ i = 1 ∨ i = 2 by omega) with rfl | rfl | rfl <;> simp [cgCells, pcO]
    · have e : pcB c gu i = gu := by simp [pcB, h3]
      rw [e]
      refine ⟨blk_cell e2 ?_, blk_free e2 _⟩
      have e2 : pcO i = i - 3 := by unfold pcO; rw [if_neg (by omega), if_neg (by omega), if_neg (by omega)]
      rw [e2, urF_get (by omega), show 3 + (i - 3) = i by omega]
  refine ⟨ao, ac, _, rfl, by rw [← hro]; exact (hpc wr h1.blk h1.uu).1, fun w1 hb => by rw [← hro]; exact own_same hr fun g hg => hb.block g (own_lt hr hg), fun w1 w4 ao2 cap2 m2 hb hm hown hg hf => ?_⟩
  subst hm
  rw [← hro] at hg hf
  obtain ⟨q1, q2⟩ := h1.push hi hb hown hg hf
  obtain ⟨e1, e2⟩ := h1.behind hi hb hg
  obtain ⟨e3, e4⟩ := hpc w4 e1 e2
  exact ⟨⟨by rw [← hro]; exact e3, e4, blk_cell e1 rfl⟩, _, av, ar, _, q1.congr (fun i' _ => hn i'), h2.trans q2, h3⟩
end

set_option maxRecDepth 100000 in
set_option maxHeartbeats 1600000 in
theorem add_any (zb c n : Nat) (R : List Hrl) (off : Nat → Nat) (T : List Nat) (V : CV) (S : Nat → Prop) (p q : List Nat) (pv cv : Value) (w : World) (h : CH w c n R (lackR R off T) (memB T) T T.length V S) (hp : p.Nodup) (hpn : ∀ x ∈ p, x < n) (hqn : ∀ x ∈ q, x < n)
    (Lp : Rd w pv (ints p)) (Lq : Rd w cv (ints q)) (hpb : ∀ g, pv.ownBlock = some g → g < w.heap.size ∧ ¬ S g) (hqb : ∀ g, cv.ownBlock = some g → g < w.heap.size ∧ ¬ S g) (hn : n ≤ 1000000) (hRl : R.length ≤ 1000000) (ho : off R.length = 0) (hza : ∀ v ∈ V.ar, ∀ g, v.ownBlock = some g → zb ≤ g) (hzq : ∀ g, cv.ownBlock = some g → zb ≤ g) :
    Calls Try.prog 66 #[.pointer (some ⟨c, 0, none⟩), .agg #[pv, cv]] w (AddP zb w c n R off T p q S) := by
  obtain ⟨po, pc, rfl, hp1, hp2, hp3⟩ := Lp
  obtain ⟨qo, qc, hcv, hq1, hq2, hq3⟩ := Lq
  have Lq : Rd w cv (ints q) := ⟨qo, qc, hcv, hq1, hq2, hq3⟩
  subst hcv
  rw [ints_length p] at hp1 hp3 hpb ⊢
  rw [ints_length q] at hq1 Lq hqb hzq ⊢
  obtain ⟨pl, hpl⟩ : ∃ pl, pl = p.length := ⟨_, rfl⟩
  obtain ⟨ql, hql⟩ : ∃ ql, ql = q.length := ⟨_, rfl⟩
  rw [← hpl] at hp1 hp3 hpb ⊢
  rw [← hql] at hq1 Lq hqb hzq ⊢
  obtain ⟨m, hm⟩ : ∃ m, m = R.length := ⟨_, rfl⟩
  have hcc : (R.map Prod.snd).length = m := by rw [List.length_map, hm]
  have B0 := bel_alloc w (.cells #[.slice po pl pc, .slice qo ql qc] 90)
  have HA0 : Hid (AdI zb (w.alloc (.cells #[.slice po pl pc, .slice qo ql qc] 90)) c n T.length V.gu V.gh R (lackR R off T) T p [] 0 [] (R.map Prod.snd) S (w.alloc (.cells #[.slice po pl pc, .slice qo ql qc] 90))) := hid_of ⟨roF V, V.av, V.ar, S, (h.at B0).toG.congr (fun i _ => rlS_start R _ T R.length p i), Chg.refl _ _, (by have := h.ad.1; rw [Nat.mul_one] at this; rw [List.length_map]; exact this), hza⟩
  have HQZ := hid_of hzq
  have HSZ : Hid (∀ g, S g → g < (w.alloc (.cells #[.slice po pl pc, .slice qo ql qc] 90)).heap.size) := hid_of (fun g hg => by have := h.sz g hg; simp; omega)
  have HLQ : Hid (Rd (w.alloc (.cells #[.slice po pl pc, .slice qo ql qc] 90)) (.slice qo ql qc) (ints q)) := hid_of (Lq.at B0)
  have HQB : Hid (∀ g, (Value.slice qo ql qc).ownBlock = some g → g < (w.alloc (.cells #[.slice po pl pc, .slice qo ql qc] 90)).heap.size ∧ ¬ S g) := hid_of (fun g hg => ⟨by have := (hqb g hg).1; simp; omega, (hqb g hg).2⟩)
  have HBX : Hid (w.heap.size < (w.alloc (.cells #[.slice po pl pc, .slice qo ql qc] 90)).heap.size ∧ ¬ S w.heap.size ∧ (w.alloc (.cells #[.slice po pl pc, .slice qo ql qc] 90)).heap[w.heap.size]? = some (.cells #[.slice po pl pc, .slice qo ql qc] 90 (0, 0))) := hid_of ⟨by simp, fun hs => by have := h.sz _ hs; omega, heap_alloc_new w _⟩
  have HBXC : Hid (∀ (wr : World) (x0 : List Nat) (j : Nat) (x1 : List Nat) (CC : List (List Nat)), AdI zb (w.alloc (.cells #[.slice po pl pc, .slice qo ql qc] 90)) c n T.length V.gu V.gh R (lackR R off T) T p x0 j x1 CC S wr → wr.cell? ⟨w.heap.size, 0, none⟩ = some (.slice po pl pc) ∧ wr.cell? ⟨w.heap.size, 1, none⟩ = some (.slice qo ql qc)) := hid_of (fun wr x0 j x1 CC hi => by
    obtain ⟨ro, av, ar, S', h1, h2, h3⟩ := hi
    have hb := h2.blk HBX.out.2.2 HBX.out.2.1
    exact ⟨blk_cell (cs := [.slice po pl pc, .slice qo ql qc]) hb rfl, blk_cell (cs := [.slice po pl pc, .slice qo ql qc]) hb rfl⟩)
  have HFIN : Hid (∀ wr, AdI zb (w.alloc (.cells #[.slice po pl pc, .slice qo ql qc] 90)) c n T.length V.gu V.gh R (lackR R off T) T p (if p = [] then [R.length] else []) p.length [lackF p T] (R.map Prod.snd ++ [q]) S wr → AddP zb w c n R off T p q S (.returned (.tuple #[])) wr) := hid_of (fun wr hi => by
    obtain ⟨ro, av, ar, S', h1, h2, h3⟩ := hi
    have e : R.map Prod.snd ++ [q] = (R ++ [(p, q)]).map Prod.snd := by simp
    rw [e] at h1 h3
    refine ⟨rfl, _, S', (h1.congr (fun i _ => rlS_end R off T p q ho i)).toH h.nd h.tn (fun i x hi hx => ?_) (fun i hi => ?_) (by rw [h3.1, List.length_map]), (Chg.ofBelow B0).trans h2, h3.2⟩
    · rw [conc_snoc] at hx
      split at hx
      · exact h.rn i x (by assumption) hx
      · split at hx
        · exact hqn x hx
        · simp at hx
    · rw [prem_snoc]
      split
      · exact h.pn i (by assumption)
      · split
        · exact ⟨hp, hpn⟩
        · exact ⟨by simp, by simp⟩)
  have HPL := hid_of hpl
  have HM := hid_of hm
  have HCC := hid_of hcc
  have HML : Hid (m ≤ 1000000) := hid_of (by omega)
  have HRF : Hid (∀ (x0 : List Nat) (j : Nat) (x1 : List Nat), (rlS R (lackR R off T) T R.length p x0 j x1 1).length = m + x1.length) := hid_of (fun x0 j x1 => by simp [rlS, hm])
  obtain ⟨ao0, ac0, hav⟩ := own_shape h.ad
  have k2 := (h.at B0).cell (j := 2) rfl
  rw [hav, ← hm] at k2
  have HPN := hid_of hpn
  have HPD := hid_of hp
  have HPR : Hid (∀ (wr : World) (x0 : List Nat) (j : Nat) (x1 : List Nat) (CC : List (List Nat)) (i a : Nat), AdI zb (w.alloc (.cells #[.slice po pl pc, .slice qo ql qc] 90)) c n T.length V.gu V.gh R (lackR R off T) T p x0 j x1 CC S wr → p[i]? = some a → ∃ g o, po = some ⟨g, o, none⟩ ∧ wr.cell? ⟨g, o + i, none⟩ = some (.int .i64 (a : Int))) := hid_of (fun wr x0 j x1 CC i a hi ha => by
    obtain ⟨ro, av, ar, S', h1, h2, h3⟩ := hi
    obtain ⟨g, o, e, hg, hc⟩ := hp3 (by have := (List.getElem?_eq_some_iff.1 ha).1; omega)
    refine ⟨g, o, e, ?_⟩
    have hb := hpb g (by rw [e]; rfl)
    have h5 := hc i _ (ints_get ha)
    have h6 := B0.block g hg
    unfold World.cell? at h5 ⊢
    rw [h2.kept.block g (by have := B0.size; omega) hb.2, h6]; exact h5)
  have HHS : Hid (∀ (wr : World) (x0 : List Nat) (j : Nat) (x1 : List Nat) (CC : List (List Nat)) (a : Nat), AdI zb (w.alloc (.cells #[.slice po pl pc, .slice qo ql qc] 90)) c n T.length V.gu V.gh R (lackR R off T) T p x0 j x1 CC S wr → a < n → wr.cell? ⟨c, 4, none⟩ = some (.slice (some ⟨V.gh, 0, none⟩) n n) ∧ wr.cell? ⟨V.gh, a, none⟩ = some (.bool (memB T a)) ∧ wr.cell? ⟨c, 1, none⟩ = some (.slice (some ⟨V.gu, 0, none⟩) n n)) := hid_of (fun wr x0 j x1 CC a hi ha => by
    obtain ⟨ro, av, ar, S', h1, h2, h3⟩ := hi
    exact ⟨blk_cell h1.blk rfl, blk_cell h1.ha (bools_get _ ha), blk_cell h1.blk rfl⟩)
  clear h Lq hav hpb hqb hpn hqn ho hRl hcc hm B0 hp hp3 hq3 hql hpl
  by_cases h0 : 0 < pl
  · have hd0 : ((pl : Int) == 0) = false := by simp; omega
    have HPE : Hid ((if p = [] then [R.length] else []) = ([] : List Nat)) := hid_of (by rw [if_neg]; rintro rfl; have := HPL.out; simp at this; omega)
    rw [HPE.out] at HFIN
    go_enter Try.func66, Try.ntmps66
    go_wp2
    go_loopw [5, 7, 30] (fun kv xv iv wr => ∃ (j y : Nat) (v : Value), kv = .int .i64 y ∧ xv = v ∧ j ≤ pl ∧ iv = .int .i64 j ∧ y ≤ j ∧ Hid (y = lackF (p.take j) T) ∧ Hid (AdI zb (w.alloc (.cells #[.slice po pl pc, .slice qo ql qc] 90)) c n T.length V.gu V.gh R (lackR R off T) T p [] j [] (R.map Prod.snd) S wr)) (fun _ _ iv _ => pl - (intOf iv).toNat)
    case atStart => exact ⟨0, 0, _, rfl, rfl, Nat.zero_le _, rfl, Nat.le_refl _, hid_of rfl, HA0⟩
    case round =>
      obtain ⟨j, y, v, rfl, rfl, hj, rfl, hyj, hy, hi⟩ := hrel
      by_cases hlt : j < pl
      · have hd : decide (j < pl) = true := by simp; omega
        obtain ⟨a, ha⟩ : ∃ a, p[j]? = some a := ⟨_, List.getElem?_eq_getElem (by have := HPL.out; omega)⟩
        have han : a < n := HPN.out a (List.mem_of_getElem? ha)
        obtain ⟨g, o, rfl, c1⟩ := HPR.out wr _ _ _ _ j a hi.out ha
        obtain ⟨h4, hA, h1⟩ := HHS.out wr _ _ _ _ a hi.out han
        obtain ⟨uo, uc, ul, u1, u2, u3, u4⟩ := AdI.row hi.out (i := 3 + a) (x := m) (by omega) (fun i' => by rw [HM.out]; exact rlS_next HPD.out ha i')
        rw [pcB_u, pcO_u] at u2 u4
        have HU4 := hid_of u4
        have HULE : Hid (ul ≤ m) := hid_of (by
          rw [u1]
          have e : rlS R (lackR R off T) T R.length p [] j [] (3 + a) = usesF R a ++ (if a ∈ p.take j then [R.length] else []) := by
            unfold rlS
            rw [if_neg (by omega), if_neg (by omega), if_neg (by omega), show 3 + a - 3 = a by omega]
          rw [e, if_neg (not_take HPD.out ha), List.append_nil, HM.out]
          unfold usesF
          exact Nat.le_trans (List.length_filter_le _ _) (by simp))
        have HOU : Hid (((wr.alloc (.cells #[.int .i64 (m : Int)] 3)).drew).ownsRow 0 3 1 (.slice uo ul uc) ul (ints (rlS R (lackR R off T) T R.length p [] j [] (3 + a)))) := hid_of (u3 _ (alloc_drew _ _))
        have HCU : Hid (((wr.alloc (.cells #[.int .i64 (m : Int)] 3)).drew).cell? ⟨wr.heap.size, 0, none⟩ = some (.int .i64 (m : Int))) := hid_of (cell_new _ _ _)
        have HDU : Hid (Below wr.heap.size wr ((wr.alloc (.cells #[.int .i64 (m : Int)] 3)).drew)) := hid_of (alloc_drew _ _)
        have HAJ := hid_of ha
        have HIO := hid_of hi.out
        obtain ⟨b, hb⟩ : ∃ b, b = memB T a := ⟨_, rfl⟩
        have HB := hid_of hb
        have u2a := alloc_cell (.cells #[.int .i64 (m : Int)] 3) u2
        have h1a := alloc_cell (.cells #[.int .i64 (m : Int)] 3) h1
        clear u1 u3 u4 ha hi hA hb
        go_wp2
        have HHN := hid_of han
        clear c1
        go_region_law ((refine step_own intsE (by rfl) _ _ (by rfl) (.slice uo ul uc) ul _ (by rfl) HOU.out wr.heap.size (.int .i64 (m : Int)) (by rfl) HCU.out rfl (by have := HML.out; have := HULE.out; omega) (by have := HML.out; have := HULE.out; omega) ?_; intro ao2 cap2 m2 w4 e1 e2 e3 e4; have PP := hid_of (HU4.out _ w4 ao2 cap2 m2 HDU.out e1 e2 e3 e4); clear e1 e2 e3 e4; have q5 := PP.out.1.1; have f5 := PP.out.1.2.1; have q6 := PP.out.1.2.2))
        all_goals
          obtain ⟨i4, iA, _⟩ := HHS.out _ _ _ _ _ a PP.out.2 HHN.out
          rw [← HB.out] at iA
          have HN := hid_of PP.out.2
          clear q5 f5 q6 u2 u2a h1 h1a h4
          generalize w4.setCell ⟨V.gu, a, none⟩ (.slice ao2 m2 cap2) = w5 at *
          cases b
          · go_wp2
            go_roundw
            case rel => exact ⟨j + 1, y + 1, _, by go_num, rfl, by omega, by go_num, by omega, hid_of (by rw [take_snoc_get HAJ.out, lackF_snoc, ← hy.out]; rw [if_neg (of_decide_eq_false HB.out.symm)]), HN⟩
            case measure => simp [intOf]; omega
          · go_wp2
            go_roundw
            case rel => exact ⟨j + 1, y, _, rfl, rfl, by omega, by go_num, by omega, hid_of (by rw [take_snoc_get HAJ.out, lackF_snoc, ← hy.out]; rw [if_pos (of_decide_eq_true HB.out.symm)]; rfl), HN⟩
            case measure => simp [intOf]; omega
      · have hd : decide (j < pl) = false := by simp; omega
        obtain rfl : pl = j := by omega
        have hy2 := hy.out
        rw [show p.take pl = p from List.take_of_length_le (by have := HPL.out; omega)] at hy2
        have HY := hid_of hy2
        have HIE : Hid (AdI zb (w.alloc (.cells #[.slice po pl pc, .slice qo ql qc] 90)) c n T.length V.gu V.gh R (lackR R off T) T p [] p.length [] (R.map Prod.snd) S wr) := hid_of (by rw [← HPL.out]; exact hi.out)
        rw [← HY.out] at HFIN
        clear hy2 hy hi hlt
        obtain ⟨ao, ac, ar, t1, t2, t3, t4⟩ := AdI.adds (HIE).out HCC.out HSZ.out HLQ.out HQB.out HQZ.out
        have HT4 := hid_of t4
        have tq := (HBXC.out _ _ _ _ _ (HIE).out).2
        have t1a := alloc_cell (.cells #[.slice qo ql qc] 56) t1
        have HOW : Hid (((wr.alloc (.cells #[.slice qo ql qc] 56)).drew).ownsRow 0 56 1 (.slice ao m ac) m ar) := hid_of (t3 _ (alloc_drew _ _))
        have HCN : Hid (((wr.alloc (.cells #[.slice qo ql qc] 56)).drew).cell? ⟨wr.heap.size, 0, none⟩ = some (.slice qo ql qc)) := hid_of (cell_new _ _ _)
        have HDS : Hid (Below wr.heap.size wr ((wr.alloc (.cells #[.slice qo ql qc] 56)).drew)) := hid_of (alloc_drew _ _)
        clear t2 t3 t4
        go_wp2
        go_region_law ((refine step_own rowsE (by rfl) _ _ (by rfl) (.slice ao m ac) m ar (by rfl) HOW.out wr.heap.size (.slice qo ql qc) (by rfl) HCN.out rfl (by have := HML.out; omega) (by have := HML.out; omega) ?_; intro ao2 cap2 m2 w4 e1 e2 e3 e4; have PP := hid_of (HT4.out _ w4 ao2 cap2 m2 HDS.out e1 e2 e3 e4); clear e1 e2 e3 e4; have q5 := PP.out.1.1; have f5 := PP.out.1.2))
        all_goals
          obtain ⟨lo, lc, ll, t5, t6, t7, t8⟩ := AdI.row PP.out.2 (i := 1) (x := y) (by omega) (fun i' => rlS_lack R (lackR R off T) T R.length p [] p.length y i')
          have HT8 := hid_of t8
          have HLL : Hid (ll = m) := hid_of (by rw [t5, HRF.out]; simp)
          have t6b : (w4.setCell ⟨c, 2, none⟩ (.slice ao2 m2 cap2)).cell? ⟨c, 3, none⟩ = some (.slice lo ll lc) := t6
          have HOL := hid_of (t7 ((w4.setCell ⟨c, 2, none⟩ (.slice ao2 m2 cap2)).alloc (.cells #[.int .i64 (y : Int)] 3)) (bel_alloc _ _))
          clear t5 t6 t7 t8 t1 t1a tq q5 f5
          generalize w4.setCell ⟨c, 2, none⟩ (.slice ao2 m2 cap2) = w5 at *
          have HCN2 := hid_of (cell_new w5 (.int .i64 (y : Int)) 3)
          go_wp2_with (at_builtin; refine wpList_own intsE rfl (.tmp 76) (.tmp 78) rfl (.slice lo ll lc) ll _ rfl HOL.out w5.heap.size (.int .i64 (y : Int)) rfl HCN2.out rfl (by have := HML.out; have := HLL.out; omega) (by have := HML.out; have := HLL.out; omega) ?_; intro ao3 cap3 m3 w6 e1 e2 e3 e4; have P3 := hid_of (HT8.out _ w6 ao3 cap3 m3 (bel_alloc _ _) e1 e2 e3 e4); clear e1 e2 e3 e4; have q7 : w6.cell? ⟨c, 3, none⟩ = some (.slice lo ll lc) := P3.out.1.1; have f7 : w6.frozen? ⟨c, 3, none⟩ = false := P3.out.1.2.1)
          go_end0
          exact HFIN.out _ P3.out.2
  · obtain rfl : pl = 0 := by omega
    have HP0 : Hid (p = []) := hid_of (List.eq_nil_of_length_eq_zero HPL.out.symm)
    rw [if_pos HP0.out] at HFIN
    obtain ⟨fo, fc, fl, u1, u2, u3, u4⟩ := AdI.row HA0.out (i := 0) (x := m) (by omega) (fun i' => by rw [HM.out]; exact rlS_free R (lackR R off T) T R.length p i')
    have HU4 := hid_of u4
    have u2b : (w.alloc (.cells #[.slice po 0 pc, .slice qo ql qc] 90)).cell? ⟨c, 0, none⟩ = some (.slice fo fl fc) := u2
    have HFL : Hid (fl ≤ m) := hid_of (by
      rw [u1]
      have e : rlS R (lackR R off T) T R.length p [] 0 [] 0 = freeF R := by simp [rlS]
      rw [e, HM.out]
      unfold freeF
      exact Nat.le_trans (List.length_filter_le _ _) (by simp))
    have HOF := hid_of (u3 ((w.alloc (.cells #[.slice po 0 pc, .slice qo ql qc] 90)).alloc (.cells #[.int .i64 (m : Int)] 3)) (bel_alloc _ _))
    have HCF := hid_of (cell_new (w.alloc (.cells #[.slice po 0 pc, .slice qo ql qc] 90)) (.int .i64 (m : Int)) 3)
    have hsz0 : (w.alloc (.cells #[.slice po 0 pc, .slice qo ql qc] 90)).heap.size = w.heap.size + 1 := by simp
    rw [hsz0] at HCF
    have HSZ0 := hid_of hsz0
    clear u1 u2 u3 u4 hsz0
    go_enter Try.func66, Try.ntmps66
    go_wp2_with (at_builtin; refine wpList_own intsE rfl (.tmp 21) (.tmp 23) rfl (.slice fo fl fc) fl _ rfl HOF.out (w.heap.size + 1) (.int .i64 (m : Int)) rfl HCF.out rfl (by have := HML.out; have := HFL.out; omega) (by have := HML.out; have := HFL.out; omega) ?_; intro ao2 cap2 m2 w4 e1 e2 e3 e4; have PP := hid_of (HU4.out _ w4 ao2 cap2 m2 (bel_alloc _ _) e1 e2 e3 e4); clear e1 e2 e3 e4; have q5 : w4.cell? ⟨c, 0, none⟩ = some (.slice fo fl fc) := PP.out.1.1; have f5 : w4.frozen? ⟨c, 0, none⟩ = false := PP.out.1.2.1; have q6 : (w4.setCell ⟨c, 0, none⟩ (.slice ao2 m2 cap2)).cell? ⟨w.heap.size, 0, none⟩ = some (.slice po 0 pc) := (HBXC.out _ _ _ _ _ PP.out.2).1)
    have HIB : Hid (AdI zb (w.alloc (.cells #[.slice po 0 pc, .slice qo ql qc] 90)) c n T.length V.gu V.gh R (lackR R off T) T p [m] p.length [] (R.map Prod.snd) S (w4.setCell ⟨c, 0, none⟩ (.slice ao2 m2 cap2))) := hid_of (by
      have h5 := PP.out.2
      have e : [R.length] = [m] := by rw [HM.out]
      rw [← HPL.out]
      rw [e] at h5; exact h5)
    clear q5 f5 PP k2 HA0
    generalize w4.setCell ⟨c, 0, none⟩ (.slice ao2 m2 cap2) = w7 at *
    go_loop [5, 7, 30] (fun kv xv iv => ∃ v : Value, kv = .int .i64 0 ∧ xv = v ∧ iv = .int .i64 0) (fun _ _ iv => 0)
    case atStart => exact ⟨_, rfl, rfl, rfl⟩
    case round =>
      obtain ⟨v, rfl, rfl, rfl⟩ := hrel
      have HL0 : Hid (lackF p T = 0) := hid_of (by rw [HP0.out]; rfl)
      rw [HL0.out, ← HM.out] at HFIN
      obtain ⟨ao, ac, ar, t1, t2, t3, t4⟩ := AdI.adds (HIB).out HCC.out HSZ.out HLQ.out HQB.out HQZ.out
      have HT4 := hid_of t4
      have tq := (HBXC.out _ _ _ _ _ (HIB).out).2
      have t1a := alloc_cell (.cells #[.slice qo ql qc] 56) t1
      have HOW : Hid (((w7.alloc (.cells #[.slice qo ql qc] 56)).drew).ownsRow 0 56 1 (.slice ao m ac) m ar) := hid_of (t3 _ (alloc_drew _ _))
      have HCN : Hid (((w7.alloc (.cells #[.slice qo ql qc] 56)).drew).cell? ⟨w7.heap.size, 0, none⟩ = some (.slice qo ql qc)) := hid_of (cell_new _ _ _)
      have HDS : Hid (Below w7.heap.size w7 ((w7.alloc (.cells #[.slice qo ql qc] 56)).drew)) := hid_of (alloc_drew _ _)
      clear t2 t3 t4
      go_wp2
      go_region_law ((refine step_own rowsE (by rfl) _ _ (by rfl) (.slice ao m ac) m ar (by rfl) HOW.out w7.heap.size (.slice qo ql qc) (by rfl) HCN.out rfl (by have := HML.out; omega) (by have := HML.out; omega) ?_; intro ao2 cap2 m2 w4 e1 e2 e3 e4; have PP := hid_of (HT4.out _ w4 ao2 cap2 m2 HDS.out e1 e2 e3 e4); clear e1 e2 e3 e4; have q5 := PP.out.1.1; have f5 := PP.out.1.2))
      all_goals
        obtain ⟨lo, lc, ll, t5, t6, t7, t8⟩ := AdI.row PP.out.2 (i := 1) (x := 0) (by omega) (fun i' => rlS_lack R (lackR R off T) T R.length p [m] p.length 0 i')
        have HT8 := hid_of t8
        have HLL : Hid (ll = m) := hid_of (by rw [t5, HRF.out]; simp)
        have t6b : (w4.setCell ⟨c, 2, none⟩ (.slice ao2 m2 cap2)).cell? ⟨c, 3, none⟩ = some (.slice lo ll lc) := t6
        have HOL := hid_of (t7 ((w4.setCell ⟨c, 2, none⟩ (.slice ao2 m2 cap2)).alloc (.cells #[.int .i64 ((0 : Nat) : Int)] 3)) (bel_alloc _ _))
        clear t5 t6 t7 t8 t1 t1a tq q5 f5
        generalize w4.setCell ⟨c, 2, none⟩ (.slice ao2 m2 cap2) = w5 at *
        have HCN2 := hid_of (cell_new w5 (.int .i64 ((0 : Nat) : Int)) 3)
        go_wp2_with (at_builtin; refine wpList_own intsE rfl (.tmp 76) (.tmp 78) rfl (.slice lo ll lc) ll _ rfl HOL.out w5.heap.size (.int .i64 ((0 : Nat) : Int)) rfl HCN2.out rfl (by have := HML.out; have := HLL.out; omega) (by have := HML.out; have := HLL.out; omega) ?_; intro ao3 cap3 m3 w6 e1 e2 e3 e4; have P3 := hid_of (HT8.out _ w6 ao3 cap3 m3 (bel_alloc _ _) e1 e2 e3 e4); clear e1 e2 e3 e4; have q7 : w6.cell? ⟨c, 3, none⟩ = some (.slice lo ll lc) := P3.out.1.1; have f7 : w6.frozen? ⟨c, 3, none⟩ = false := P3.out.1.2.1)
        go_end0
        exact HFIN.out _ P3.out.2
end Go.Proofs.Ytedohggbpmcehaa

/- The characters of a name; what a name is. -/
namespace Go.Proofs.Ytedohggbpmcehaa
open Go.RowKit

def isl (c : Int) : Bool := decide (97 ≤ c) && decide (c ≤ 122)
def inw (c : Int) : Bool := isl c || (decide (48 ≤ c) && decide (c ≤ 57)) || decide (c = 45)
def isName : List Int → Bool
  | [] => false
  | c :: l => decide (l.length < 16) && isl c && (c :: l).all inw
def strBytes (s : ByteArray) : List Int := s.data.toList.map fun b => (b.toNat : Int)
theorem strBytes_length (s : ByteArray) : (strBytes s).length = s.size := by simp [strBytes]
theorem strBytes_at (s : ByteArray) (k : Nat) (h : k < s.size) : (strBytes s)[k]? = some ((s[k]).toNat : Int) := by
  have h2 : k < s.data.toList.length := by simpa using h
  simp only [strBytes, List.getElem?_map, List.getElem?_eq_getElem h2]
  rfl

set_option maxRecDepth 100000 in
theorem isLetter_any (c : Int) (w : World) : Calls Try.prog 85 #[.int .u8 c] w fun e w' => e = .returned (.bool (isl c)) ∧ w' = w := by
  obtain ⟨r, hr⟩ : ∃ r, r = isl c := ⟨_, rfl⟩
  rw [← hr]
  have HR := hid_of hr
  clear hr
  go_enter Try.func85, Try.ntmps85
  go_wp2
  all_goals go_ret
  all_goals
    refine ⟨congrArg (fun b => Ending.returned (Value.bool b)) ?_, rfl⟩
    rw [HR.out, Bool.eq_iff_iff]
    simp [isl]
    try omega
set_option maxRecDepth 100000 in
theorem inWord_any (c : Int) (w : World) : Calls Try.prog 86 #[.int .u8 c] w fun e w' => e = .returned (.bool (inw c)) ∧ w' = w := by
  obtain ⟨q, hq⟩ : ∃ q, q = isl c := ⟨_, rfl⟩
  have LET := hid_of (fun w => isLetter_any c w)
  rw [← hq] at LET
  obtain ⟨r, hr⟩ : ∃ r, r = inw c := ⟨_, rfl⟩
  rw [← hr]
  have HR := hid_of hr
  have HQ := hid_of hq
  clear hr hq
  go_enter Try.func86, Try.ntmps86
  cases q
  all_goals go_wp2_with (go_at_call 85; ((with_reducible refine (LET.out w).mono ?_); (rintro e w' ⟨rfl, rfl⟩)))
  all_goals go_ret
  all_goals
    refine ⟨congrArg (fun b => Ending.returned (Value.bool b)) ?_, rfl⟩
    rw [HR.out]
    unfold inw
    rw [← HQ.out, Bool.eq_iff_iff]
    simp
    try omega
end Go.Proofs.Ytedohggbpmcehaa

/- Valid of package names, and of its reference. No condition. -/
namespace Go.Proofs.Ytedohggbpmcehaa
open Go.RowKit

theorem isName_iff (l : List Int) : isName l = true ↔ 0 < l.length ∧ l.length ≤ 16 ∧ (∀ c : Int, l[0]? = some c → isl c = true) ∧ ∀ (j : Nat) (c : Int), l[j]? = some c → inw c = true := by
  cases l with
  | nil => simp [isName]
  | cons c l =>
    have h : (∀ (j : Nat) (y : Int), (c :: l)[j]? = some y → inw y = true) ↔ (c :: l).all inw = true := by
      rw [List.all_eq_true]
      constructor
      · intro h y hy
        obtain ⟨j, hj⟩ := List.getElem?_of_mem hy
        exact h j y hj
      · intro h j y hj
        exact h y (List.mem_of_getElem? hj)
    rw [h]
    simp only [isName, Bool.and_eq_true, decide_eq_true_eq, List.length_cons]
    constructor
    · rintro ⟨⟨h1, h2⟩, h3⟩
      exact ⟨by omega, by omega, fun y hy => by simp at hy; rw [← hy]; exact h2, h3⟩
    · rintro ⟨_, h1, h2, h3⟩
      exact ⟨⟨by omega, h2 c (by simp)⟩, h3⟩

set_option maxRecDepth 100000 in
theorem valid_any (s : ByteArray) (w : World) (hs : s.size ≤ maxLen) : Calls Try.prog 67 #[.string s] w fun e w' => e = .returned (.bool (isName (strBytes s))) ∧ w' = w := by
  unfold maxLen at hs
  obtain ⟨r, hr⟩ : ∃ r, r = isName (strBytes s) := ⟨_, rfl⟩
  rw [← hr]
  have HR := hid_of hr
  have LET := hid_of isLetter_any
  have INW := hid_of inWord_any
  clear hr
  by_cases h0 : s.size = 0
  · have RF : Hid (r = false) := hid_of (by
      rw [HR.out, Bool.eq_false_iff]; intro h; have := ((isName_iff _).1 h).1; rw [strBytes_length] at this; omega)
    have d0 : decide ((s.size : Int) = 0) = true := decide_eq_true (by omega)
    go_enter Try.func67, Try.ntmps67
    go_wp2
    go_ret
    exact ⟨by rw [RF.out] <;> rfl, rfl⟩
  by_cases h16 : 16 < s.size
  · have RF : Hid (r = false) := hid_of (by
      rw [HR.out, Bool.eq_false_iff]; intro h; have := ((isName_iff _).1 h).2.1; rw [strBytes_length] at this; omega)
    have d0 : decide ((s.size : Int) = 0) = false := decide_eq_false (by omega)
    have d1 : decide ((s.size : Int) > 16) = true := decide_eq_true (by omega)
    go_enter Try.func67, Try.ntmps67
    go_wp2
    go_ret
    exact ⟨by rw [RF.out] <;> rfl, rfl⟩
  have d0 : decide ((s.size : Int) = 0) = false := decide_eq_false (by omega)
  have d1 : decide ((s.size : Int) > 16) = false := decide_eq_false (by omega)
  have d0b : ((s.size : Int) == 0) = false := beq_eq_false_iff_ne.2 (by omega)
  have hp : 0 < s.size := by omega
  obtain ⟨y, hy⟩ : ∃ y : Int, y = ((s[0]).toNat : Int) := ⟨_, rfl⟩
  have HY : Hid ((strBytes s)[0]? = some y) := hid_of (by rw [strBytes_at s 0 hp, hy])
  have hys : ((s[0]).toNat : Int) = y := hy.symm
  clear hy
  have HP := hid_of hp
  have H16 := hid_of h16
  obtain ⟨q, hq⟩ : ∃ q, q = isl y := ⟨_, rfl⟩
  have LY : Hid (∀ w, Calls Try.prog 85 #[.int .u8 y] w fun e w' => e = .returned (.bool q) ∧ w = w') := hid_of (fun w => by rw [hq]; exact (isLetter_any y w).mono fun _ _ h => ⟨h.1, h.2.symm⟩)
  have HQ := hid_of hq
  clear hq
  cases q
  · have RF : Hid (r = false) := hid_of (by
      rw [HR.out, Bool.eq_false_iff]; intro h; have := ((isName_iff _).1 h).2.2.1 y HY.out; rw [← HQ.out] at this; exact absurd this (by simp))
    go_enter Try.func67, Try.ntmps67
    go_wp2_with (go_at_call 85; ((with_reducible refine (LY.out w).mono ?_); (rintro e w' ⟨rfl, rfl⟩)))
    go_ret
    exact ⟨by rw [RF.out] <;> rfl, rfl⟩
  go_enter Try.func67, Try.ntmps67
  go_wp2_with (go_at_call 85; ((with_reducible refine (LY.out w).mono ?_); (rintro e w' ⟨rfl, rfl⟩)))
  clear hys
  go_loopw [3, 20] (fun xv iv wr => ∃ (i : Nat) (v : Value), xv = v ∧ i ≤ s.size ∧ iv = .int .i64 i ∧ wr = w ∧ Hid (∀ (j : Nat) (c : Int), j < i → (strBytes s)[j]? = some c → inw c = true)) (fun _ iv _ => s.size - (intOf iv).toNat)
  case atStart => exact ⟨0, _, rfl, Nat.zero_le _, rfl, rfl, hid_of (fun j c hj => by omega)⟩
  case round =>
    obtain ⟨i, v, rfl, hi, rfl, rfl, hall⟩ := hrel
    have HALL := hid_of hall.out
    clear hall
    by_cases hlt : i < s.size
    · obtain ⟨x, hx⟩ : ∃ x : Int, x = ((s[i]).toNat : Int) := ⟨_, rfl⟩
      have HX : Hid ((strBytes s)[i]? = some x) := hid_of (by rw [strBytes_at s i hlt, hx])
      have hxs : ((s[i]).toNat : Int) = x := hx.symm
      clear hx
      have HLT := hid_of hlt
      obtain ⟨q, hq⟩ : ∃ q, q = inw x := ⟨_, rfl⟩
      have IX : Hid (∀ w, Calls Try.prog 86 #[.int .u8 x] w fun e w' => e = .returned (.bool q) ∧ w = w') := hid_of (fun w => by rw [hq]; exact (inWord_any x w).mono fun _ _ h => ⟨h.1, h.2.symm⟩)
      have HQX := hid_of hq
      clear hq
      cases q
      · have RF : Hid (r = false) := hid_of (by
          rw [HR.out, Bool.eq_false_iff]; intro h; have := ((isName_iff _).1 h).2.2.2 i x HX.out; rw [← HQX.out] at this; exact absurd this (by simp))
        go_wp2_with (go_at_call 86; ((with_reducible refine (IX.out _).mono ?_); (rintro e w' ⟨rfl, rfl⟩)))
        go_ret
        exact ⟨by rw [RF.out] <;> rfl, rfl⟩
      · go_wp2_with (go_at_call 86; ((with_reducible refine (IX.out _).mono ?_); (rintro e w' ⟨rfl, rfl⟩)))
        go_roundw
        case rel => have := HLT.out; exact ⟨i + 1, _, rfl, by omega, by go_num, trivial, hid_of (fun j c hj hc => by
          by_cases e : j = i
          · subst e; rw [HX.out] at hc; cases hc; exact HQX.out.symm
          · exact HALL.out j c (by omega) hc)⟩
        case measure => have := HLT.out; simp [intOf]; omega
    · obtain rfl : s.size = i := by omega
      have RT : Hid (r = true) := hid_of (by
        rw [HR.out, isName_iff, strBytes_length]
        exact ⟨HP.out, by have := H16.out; omega, fun c hc => by rw [HY.out] at hc; cases hc; exact HQ.out.symm, fun j c hc => HALL.out j c (by have := (List.getElem?_eq_some_iff.1 hc).1; rw [strBytes_length] at this; exact this) hc⟩)
      go_wp2
      go_ret
      exact ⟨by rw [RT.out] <;> rfl, rfl⟩
end Go.Proofs.Ytedohggbpmcehaa

/- Sets of strings, as lists of lists of bytes: plain mathematics. No condition. -/
namespace Go.Proofs.Ytedohggbpmcehaa

abbrev Str := List UInt8
theorem str_irr (x : Str) : ¬ x < x := List.lt_irrefl x
theorem str_trans {x y z : Str} (h : x < y) (h2 : y < z) : x < z := List.lt_trans h h2
theorem str_tri (x y : Str) : x < y ∨ x = y ∨ y < x := by
  by_cases h1 : x < y
  · exact .inl h1
  · by_cases h2 : y < x
    · exact .inr (.inr h2)
    · exact .inr (.inl (List.le_antisymm (List.not_lt.1 h2) (List.not_lt.1 h1)))
theorem str_asym {x y : Str} (h : x < y) : ¬ y < x := fun h2 => str_irr x (str_trans h h2)
theorem str_le {x y : Str} : x ≤ y ↔ x < y ∨ x = y := by
  rw [← List.not_lt]
  constructor
  · intro h
    rcases str_tri x y with h1 | h1 | h1
    · exact .inl h1
    · exact .inr h1
    · exact absurd h1 h
  · rintro (h | rfl)
    · exact str_asym h
    · exact str_irr x

/-- Strictly increasing. -/
def SS (l : List Str) : Prop := l.Pairwise (· < ·)
theorem SS.nil : SS [] := List.Pairwise.nil
theorem ss_snoc {l : List Str} {x : Str} (h : SS l) (hx : ∀ y ∈ l, y < x) : SS (l ++ [x]) := by
  unfold SS at *
  rw [List.pairwise_append]
  exact ⟨h, List.pairwise_singleton _ _, fun a ha b hb => by rw [List.mem_singleton.1 hb]; exact hx a ha⟩
theorem ss_ext : ∀ {a b : List Str}, SS a → SS b → (∀ x, x ∈ a ↔ x ∈ b) → a = b := by
  intro a; induction a with
  | nil =>
    intro b _ _ h
    cases b with
    | nil => rfl
    | cons y b => have := (h y).2 (by simp); simp at this
  | cons x a ih =>
    intro b ha hb h
    cases b with
    | nil => have := (h x).1 (by simp); simp at this
    | cons y b =>
      have ha' := List.pairwise_cons.1 ha
      have hb' := List.pairwise_cons.1 hb
      have e : x = y := by
        have h1 := (h x).1 (by simp)
        have h2 := (h y).2 (by simp)
        rcases List.mem_cons.1 h1 with h1 | h1
        · exact h1
        · rcases List.mem_cons.1 h2 with h2 | h2
          · exact h2.symm
          · exact absurd (hb'.1 x h1) (str_asym (ha'.1 y h2))
      subst e
      rw [ih ha'.2 hb'.2 (fun z => ?_)]
      constructor
      · intro hz
        rcases List.mem_cons.1 ((h z).1 (List.mem_cons_of_mem _ hz)) with e | hz2
        · subst e; exact absurd (ha'.1 z hz) (str_irr z)
        · exact hz2
      · intro hz
        rcases List.mem_cons.1 ((h z).2 (List.mem_cons_of_mem _ hz)) with e | hz2
        · subst e; exact absurd (hb'.1 z hz) (str_irr z)
        · exact hz2

/-- Of a list: after k elements, those that are greater than the one before. -/
def ddp (a : List Str) : Nat → List Str
  | 0 => []
  | k + 1 => if k = 0 ∨ a.getD (k - 1) [] < a.getD k [] then ddp a k ++ [a.getD k []] else ddp a k
def srt (l : List Str) : List Str := l.mergeSort fun x y => decide (x ≤ y)
def setOf (l : List Str) : List Str := ddp (srt l) l.length
theorem srt_length (l : List Str) : (srt l).length = l.length := by simp [srt]
theorem srt_mem (l : List Str) (x : Str) : x ∈ srt l ↔ x ∈ l := by simp [srt]
theorem srt_pw (l : List Str) : (srt l).Pairwise (· ≤ ·) := by
  have h := List.pairwise_mergeSort (le := fun x y : Str => decide (x ≤ y)) (fun a b c h1 h2 => by
    simp only [decide_eq_true_eq] at *
    exact List.le_trans h1 h2) (fun a b => by
    simp only [Bool.or_eq_true, decide_eq_true_eq]
    rcases str_tri a b with h | h | h
    · exact .inl (str_le.2 (.inl h))
    · exact .inl (str_le.2 (.inr h))
    · exact .inr (str_le.2 (.inl h))) l
  exact h.imp (by simp)
theorem getD_of {l : List Str} {k : Nat} (h : k < l.length) : l.getD k [] = l[k] := by simp [List.getD, h]
theorem pw_get {l : List Str} (h : l.Pairwise (· ≤ ·)) {i j : Nat} (hij : i < j) (hj : j < l.length) : l.getD i [] ≤ l.getD j [] := by
  rw [getD_of hj, getD_of (by omega)]
  exact List.pairwise_iff_getElem.1 h i j (by omega) hj hij
theorem take_snoc' {α : Type} {l : List α} {k : Nat} (h : k < l.length) : l.take (k + 1) = l.take k ++ [l[k]] := List.take_succ_eq_append_getElem h
theorem ddp_spec {a : List Str} (h : a.Pairwise (· ≤ ·)) : ∀ k, k ≤ a.length → SS (ddp a k) ∧ (∀ x, x ∈ ddp a k ↔ x ∈ a.take k) := by
  intro k; induction k with
  | zero => intro _; exact ⟨SS.nil, fun x => by simp [ddp]⟩
  | succ k ih =>
    intro hk
    obtain ⟨h1, h2⟩ := ih (by omega)
    have hkl : k < a.length := by omega
    rw [ddp, take_snoc' hkl]
    by_cases hc : k = 0 ∨ a.getD (k - 1) [] < a.getD k []
    · rw [if_pos hc]
      refine ⟨ss_snoc h1 fun y hy => ?_, fun x => by rw [List.mem_append, List.mem_append, h2, getD_of hkl]⟩
      have hy' := (h2 y).1 hy
      rcases hc with hc | hc
      · subst hc; simp at hy'
      · obtain ⟨j, hj, rfl⟩ := List.mem_iff_getElem.1 hy'
        have hjk : j < k := by simp at hj; omega
        rw [List.getElem_take]
        by_cases e : j = k - 1
        · subst e
          rwa [getD_of (show k - 1 < a.length by omega)] at hc
        · have h3 := pw_get h (show j < k - 1 by omega) (by omega)
          rw [getD_of (show j < a.length by omega)] at h3
          rcases str_le.1 h3 with h4 | h4
          · exact str_trans h4 hc
          · rw [h4]; exact hc
    · rw [if_neg hc]
      refine ⟨h1, fun x => ?_⟩
      rw [h2, List.mem_append, List.mem_singleton]
      constructor
      · exact .inl
      · rintro (hx | hx)
        · exact hx
        · have hk0 : k ≠ 0 := fun e => hc (.inl e)
          have h3 := pw_get h (show k - 1 < k by omega) hkl
          have h4 : a.getD (k - 1) [] = a.getD k [] := by
            rcases str_le.1 h3 with h4 | h4
            · exact absurd (.inr h4) hc
            · exact h4
          rw [hx, ← getD_of hkl, ← h4, getD_of (show k - 1 < a.length by omega)]
          exact List.mem_iff_getElem.2 ⟨k - 1, by simp; omega, by simp⟩
theorem setOf_ss (l : List Str) : SS (setOf l) := (ddp_spec (srt_pw l) l.length (by rw [srt_length]; exact Nat.le_refl _)).1
theorem setOf_mem (l : List Str) (x : Str) : x ∈ setOf l ↔ x ∈ l := by
  rw [setOf, (ddp_spec (srt_pw l) l.length (by rw [srt_length]; exact Nat.le_refl _)).2, List.take_of_length_le (by rw [srt_length]; exact Nat.le_refl _), srt_mem]
theorem setOf_eq {l m : List Str} (h : SS m) (hm : ∀ x, x ∈ m ↔ x ∈ l) : setOf l = m := ss_ext (setOf_ss l) h (fun x => by rw [setOf_mem, hm])
theorem setOf_congr {l m : List Str} (h : ∀ x, x ∈ l ↔ x ∈ m) : setOf l = setOf m := setOf_eq (setOf_ss m) (fun x => by rw [setOf_mem, h])
theorem setOf_self {l : List Str} (h : SS l) : setOf l = l := setOf_eq h (fun _ => Iff.rfl)
theorem setOf_idem (l : List Str) : setOf (setOf l) = setOf l := setOf_self (setOf_ss l)
theorem ss_nodup {l : List Str} (h : SS l) : l.Nodup := h.imp (fun h e => by subst e; exact str_irr _ h)
theorem setOf_le (l : List Str) : (setOf l).length ≤ l.length := by
  have : ∀ k a, (ddp a k).length ≤ k := by
    intro k a; induction k with
    | zero => simp [ddp]
    | succ k ih => rw [ddp]; split
                   · rw [List.length_append]; simp; omega
                   · omega
  exact this _ _
theorem ss_filter {l : List Str} (p : Str → Bool) (h : SS l) : SS (l.filter p) := h.filter p

/-- Insertion into a sorted list. -/
def insS (x : Str) : List Str → List Str
  | [] => [x]
  | y :: l => if x < y then x :: y :: l else y :: insS x l
theorem insS_app (x : Str) : ∀ (p q : List Str), (∀ y ∈ p, y < x) → (∀ y ∈ q, x < y) → insS x (p ++ q) = p ++ x :: q := by
  intro p; induction p with
  | nil =>
    intro q _ hq
    cases q with
    | nil => rfl
    | cons y q => rw [List.nil_append, insS, if_pos (hq y (by simp))]; rfl
  | cons y p ih =>
    intro q hp hq
    rw [List.cons_append, insS, if_neg (str_asym (hp y (by simp))), ih q (fun z hz => hp z (by simp [hz])) hq]; rfl
theorem setOf_snoc_in {l : List Str} {x : Str} (h : x ∈ setOf l) : setOf (l ++ [x]) = setOf l :=
  setOf_congr fun y => by
    rw [List.mem_append, List.mem_singleton]
    exact ⟨fun hy => hy.elim id (fun e => by subst e; exact (setOf_mem l y).1 h), .inl⟩
theorem setOf_snoc_new {l p q : List Str} {x : Str} (h : setOf l = p ++ q) (hp : ∀ y ∈ p, y < x) (hq : ∀ y ∈ q, x < y) : setOf (l ++ [x]) = p ++ x :: q := by
  have hs := setOf_ss l
  rw [h] at hs
  have hs2 := List.pairwise_append.1 hs
  refine setOf_eq ?_ (fun y => ?_)
  · unfold SS
    rw [List.pairwise_append]
    refine ⟨hs2.1, List.pairwise_cons.2 ⟨hq, hs2.2.1⟩, fun a ha b hb => ?_⟩
    rcases List.mem_cons.1 hb with rfl | hb
    · exact hp a ha
    · exact hs2.2.2 a ha b hb
  · have := setOf_mem l y
    rw [h] at this
    rw [List.mem_append, List.mem_cons, List.mem_append, List.mem_singleton, ← this, List.mem_append]
    constructor
    · rintro (h | h | h)
      · exact .inl (.inl h)
      · exact .inr h
      · exact .inl (.inr h)
    · rintro ((h | h) | h)
      · exact .inl h
      · exact .inr (.inr h)
      · exact .inr (.inl h)

/-- The lexicographic comparison of lists, and the comparison of sets. -/
def cmpL : List Str → List Str → Int
  | [], [] => 0
  | [], _ :: _ => -1
  | _ :: _, [] => 1
  | x :: a, y :: b => if x < y then -1 else if y < x then 1 else cmpL a b
def cmpS (a b : List Str) : Int := if a.length < b.length then -1 else if b.length < a.length then 1 else cmpL a b
theorem cmpL_zero : ∀ {a b : List Str}, cmpL a b = 0 ↔ a = b := by
  intro a; induction a with
  | nil => intro b; cases b <;> simp [cmpL]
  | cons x a ih =>
    intro b
    cases b with
    | nil => simp [cmpL]
    | cons y b =>
      rw [cmpL]
      by_cases h1 : x < y
      · rw [if_pos h1]
        exact ⟨fun h => by omega, fun h => by cases h; exact absurd h1 (str_irr x)⟩
      · rw [if_neg h1]
        by_cases h2 : y < x
        · rw [if_pos h2]
          exact ⟨fun h => by omega, fun h => by cases h; exact absurd h2 (str_irr x)⟩
        · rw [if_neg h2, ih]
          have e : x = y := by
            rcases str_tri x y with h | h | h
            · exact absurd h h1
            · exact h
            · exact absurd h h2
          subst e
          simp
theorem cmpL_neg : ∀ (a b : List Str), cmpL b a = 0 - cmpL a b := by
  intro a; induction a with
  | nil => intro b; cases b <;> simp [cmpL]
  | cons x a ih =>
    intro b
    cases b with
    | nil => simp [cmpL]
    | cons y b =>
      rw [cmpL, cmpL]
      by_cases h1 : x < y
      · rw [if_neg (str_asym h1), if_pos h1, if_pos h1]; rfl
      · rw [if_neg h1]
        by_cases h2 : y < x
        · rw [if_pos h2, if_neg h1, if_pos h2]; rfl
        · rw [if_neg h2, if_neg h1, if_neg h2, ih]
theorem cmpL_01 : ∀ (a b : List Str), cmpL a b = -1 ∨ cmpL a b = 0 ∨ cmpL a b = 1 := by
  intro a; induction a with
  | nil => intro b; cases b <;> simp [cmpL]
  | cons x a ih =>
    intro b
    cases b with
    | nil => simp [cmpL]
    | cons y b =>
      rw [cmpL]
      split
      · exact .inl rfl
      · split
        · exact .inr (.inr rfl)
        · exact ih b
theorem cmpL_trans : ∀ {a b c : List Str}, cmpL a b = -1 → cmpL b c = -1 → cmpL a c = -1 := by
  intro a; induction a with
  | nil =>
    intro b c h1 h2
    cases c with
    | nil => cases b <;> simp [cmpL] at h1 h2
    | cons z c => rfl
  | cons x a ih =>
    intro b c h1 h2
    cases b with
    | nil => simp [cmpL] at h1
    | cons y b =>
      cases c with
      | nil => simp [cmpL] at h2
      | cons z c =>
        rw [cmpL] at h1 h2 ⊢
        by_cases a1 : x < y
        · by_cases a2 : y < z
          · rw [if_pos (str_trans a1 a2)]
          · rw [if_neg a2] at h2
            by_cases a3 : z < y
            · rw [if_pos a3] at h2; omega
            · have e : y = z := by
                rcases str_tri y z with h | h | h
                · exact absurd h a2
                · exact h
                · exact absurd h a3
              subst e; rw [if_pos a1]
        · rw [if_neg a1] at h1
          by_cases a2 : y < x
          · rw [if_pos a2] at h1; omega
          · rw [if_neg a2] at h1
            have e : x = y := by
              rcases str_tri x y with h | h | h
              · exact absurd h a1
              · exact h
              · exact absurd h a2
            subst e
            by_cases a3 : x < z
            · rw [if_pos a3]
            · rw [if_neg a3] at h2 ⊢
              by_cases a4 : z < x
              · rw [if_pos a4] at h2; omega
              · rw [if_neg a4] at h2 ⊢; exact ih h1 h2
theorem cmpS_zero {a b : List Str} : cmpS a b = 0 ↔ a = b := by
  unfold cmpS
  split
  · rename_i h
    exact ⟨fun h => by omega, fun e => by subst e; omega⟩
  · split
    · rename_i h
      exact ⟨fun h => by omega, fun e => by subst e; omega⟩
    · exact cmpL_zero
theorem cmpS_neg (a b : List Str) : cmpS b a = 0 - cmpS a b := by
  unfold cmpS
  by_cases h : a.length < b.length
  · rw [if_pos h, if_neg (by omega), if_pos h]; rfl
  · rw [if_neg h]
    by_cases h2 : b.length < a.length
    · rw [if_pos h2, if_neg h, if_pos h2]; rfl
    · rw [if_neg h2, if_neg h, if_neg h2, cmpL_neg]
theorem cmpS_01 (a b : List Str) : cmpS a b = -1 ∨ cmpS a b = 0 ∨ cmpS a b = 1 := by
  unfold cmpS
  split
  · exact .inl rfl
  · split
    · exact .inr (.inr rfl)
    · exact cmpL_01 a b
theorem cmpS_trans {a b c : List Str} (h1 : cmpS a b = -1) (h2 : cmpS b c = -1) : cmpS a c = -1 := by
  unfold cmpS at *
  by_cases e1 : a.length < b.length
  · by_cases e2 : b.length < c.length
    · rw [if_pos (by omega)]
    · rw [if_neg e2] at h2
      by_cases e3 : c.length < b.length
      · rw [if_pos e3] at h2; omega
      · rw [if_pos (by omega)]
  · rw [if_neg e1] at h1
    by_cases e2 : b.length < a.length
    · rw [if_pos e2] at h1; omega
    · rw [if_neg e2] at h1
      by_cases e3 : b.length < c.length
      · rw [if_pos (by omega)]
      · rw [if_neg e3] at h2
        by_cases e4 : c.length < b.length
        · rw [if_pos e4] at h2; omega
        · rw [if_neg e4] at h2
          rw [if_neg (by omega), if_neg (by omega)]
          exact cmpL_trans h1 h2
/-- A proper subset has fewer elements. -/
theorem ss_sub_len : ∀ {a b : List Str}, SS a → SS b → (∀ x ∈ a, x ∈ b) → a.length ≤ b.length ∧ (a.length = b.length → a = b) := by
  intro a b ha hb h
  have h1 : a = b.filter (fun x => decide (x ∈ a)) := ss_ext ha (ss_filter _ hb) (fun x => by
    rw [List.mem_filter, decide_eq_true_eq]
    exact ⟨fun hx => ⟨h x hx, hx⟩, fun hx => hx.2⟩)
  have h2 := List.length_filter_le (fun x => decide (x ∈ a)) b
  rw [← h1] at h2
  refine ⟨h2, fun e => ?_⟩
  have h3 : (b.filter (fun x => decide (x ∈ a))).length = b.length := by rw [← h1]; exact e
  rw [List.length_filter_eq_length_iff] at h3
  exact ss_ext ha hb (fun x => ⟨h x, fun hx => by simpa using h3 x hx⟩)
end Go.Proofs.Ytedohggbpmcehaa

/- Slices of strings, and who is in them: Has, Sorted and Same, of the package and of its reference. Bounds on sizes alone. -/
namespace Go.Proofs.Ytedohggbpmcehaa
open Go.RowKit

theorem strsE : Elem Try.prog 22 9 (.string ⟨#[]⟩) 16 := ⟨Try.underlying22, by kernel_rfl, rfl⟩
/-- The bytes of a string, as the value that holds them. -/
def ba (l : Str) : ByteArray := ⟨l.toArray⟩
theorem ba_list (l : Str) : (ba l).data.toList = l := rfl
theorem ba_of (s : ByteArray) : ba s.data.toList = s := rfl
def ss (l : List Str) : List Value := l.map fun x => .string (ba x)
theorem ss_length (l : List Str) : (ss l).length = l.length := by simp [ss]
theorem ss_one (l : List Str) : ∀ u ∈ ss l, u.oneCell' = true := by
  intro u hu
  obtain ⟨y, _, rfl⟩ := List.mem_map.1 hu
  rfl
theorem ss_append (a b : List Str) : ss (a ++ b) = ss a ++ ss b := by simp [ss]

theorem rds_open {w : World} {ao : Option Addr} {n cap : Nat} {l : List Str} (h : Rd w (.slice ao n cap) (ss l)) :
    n = l.length ∧ n ≤ cap ∧ cap ≤ 9223372036854775807 ∧ (l = [] ∨ ∃ g o, ao = some ⟨g, o, none⟩ ∧ g < w.heap.size ∧ ∀ j x, l[j]? = some x → w.cell? ⟨g, o + j, none⟩ = some (.string (ba x))) := by
  obtain ⟨ao2, cap2, e, h1, h2, h3⟩ := h
  cases e
  rw [ss_length] at h1 h3
  refine ⟨ss_length _, by rw [ss_length]; exact h1, h2, ?_⟩
  by_cases h0 : 0 < l.length
  · obtain ⟨g, o, e, hg, hc⟩ := h3 h0
    exact .inr ⟨g, o, e, hg, fun j x hx => hc j _ (by simp [ss, hx])⟩
  · exact .inl (List.eq_nil_of_length_eq_zero (by omega))

theorem eqS (x y : Str) : ((ba x).toList == (ba y).toList) = decide (x = y) := by
  rw [ByteArray.toList_eq, ByteArray.toList_eq, ba_list, ba_list, Bool.eq_iff_iff]; simp
theorem less_eq : ∀ (x y : List UInt8), Op.bytesLess x y = decide (x < y)
  | [], [] => by simp [Op.bytesLess]
  | _ :: _, [] => by simp [Op.bytesLess]
  | [], _ :: _ => by simp [Op.bytesLess]
  | a :: x, b :: y => by
    rw [Op.bytesLess, less_eq x y]
    simp only [List.cons_lt_cons_iff]
    by_cases h1 : a < b <;> by_cases h2 : a = b <;> by_cases h3 : x < y <;> simp [h1, h2, h3]
theorem ltS (x y : Str) : Op.bytesLess (ba x).toList (ba y).toList = decide (x < y) := by
  rw [ByteArray.toList_eq, ByteArray.toList_eq, ba_list, ba_list, less_eq]
/-- The test's outcome, for a string that stands under a name. -/
theorem eq_t {x y : Str} {bx bz : ByteArray} (hx : bx = ba x) (hy : bz = ba y) (h : x = y) : (bx.toList == bz.toList) = true := by
  subst hx hy; rw [eqS]; exact decide_eq_true h
theorem eq_f {x y : Str} {bx bz : ByteArray} (hx : bx = ba x) (hy : bz = ba y) (h : x ≠ y) : (bx.toList == bz.toList) = false := by
  subst hx hy; rw [eqS]; exact decide_eq_false h
theorem lt_t {x y : Str} {bx bz : ByteArray} (hx : bx = ba x) (hy : bz = ba y) (h : x < y) : Op.bytesLess bx.toList bz.toList = true := by
  subst hx hy; rw [ltS]; exact decide_eq_true h
theorem lt_f {x y : Str} {bx bz : ByteArray} (hx : bx = ba x) (hy : bz = ba y) (h : ¬ x < y) : Op.bytesLess bx.toList bz.toList = false := by
  subst hx hy; rw [ltS]; exact decide_eq_false h
theorem take_not {l : List Str} {k : Nat} {x : Str} (h : k < l.length) (hx : x ∉ l.take k) (hne : l[k] ≠ x) : x ∉ l.take (k + 1) := by
  rw [take_snoc' h, List.mem_append, List.mem_singleton]
  exact fun h2 => h2.elim hx (fun e => hne e.symm)
end Go.Proofs.Ytedohggbpmcehaa

/- Sorted, of the package and of its reference, and the reference's Same. Bounds on sizes alone. -/
namespace Go.Proofs.Ytedohggbpmcehaa
open Go.RowKit

/-- A list is sorted if each element is less than the next one. -/
theorem ss_adj : ∀ {l : List Str}, (∀ i, i + 1 < l.length → l.getD i [] < l.getD (i + 1) []) → SS l := by
  intro l; induction l with
  | nil => intro _; exact SS.nil
  | cons x l ih =>
    intro h
    have hl := ih (fun i hi => by have := h (i + 1) (by simp; omega); simpa using this)
    refine List.pairwise_cons.2 ⟨fun y hy => ?_, hl⟩
    cases l with
    | nil => simp at hy
    | cons z l =>
      have h0 := h 0 (by simp)
      simp at h0
      rcases List.mem_cons.1 hy with e | hy
      · rw [e]; exact h0
      · exact str_trans h0 ((List.pairwise_cons.1 hl).1 y hy)
theorem ss_get {l : List Str} (h : SS l) {i j : Nat} (hij : i < j) (hj : j < l.length) : l.getD i [] < l.getD j [] := by
  rw [getD_of hj, getD_of (by omega)]
  exact List.pairwise_iff_getElem.1 h i j (by omega) hj hij
/-- The first k elements are sorted. -/
def ssTo (l : List Str) (k : Nat) : Prop := ∀ i, i + 1 < k → l.getD i [] < l.getD (i + 1) []
theorem ssTo_succ {l : List Str} {k p : Nat} (h : ssTo l k) (hp : p + 1 = k) (h2 : l.getD p [] < l.getD k []) : ssTo l (k + 1) := by
  intro i hi
  by_cases e : i = p
  · subst e; rw [hp]; exact h2
  · exact h i (by omega)
instance (l : List Str) : Decidable (SS l) := by unfold SS; infer_instance
def ssB (l : List Str) : Bool := decide (SS l)
theorem ssB_yes {l : List Str} {n : Nat} (hn : n = l.length) (h : ssTo l n) : ssB l = true := decide_eq_true (ss_adj (fun i hi => h i (by omega)))
theorem ssB_no {l : List Str} {p k : Nat} (hp : p + 1 = k) (hk : k < l.length) (h : ¬ l.getD p [] < l.getD k []) : ssB l = false :=
  decide_eq_false (fun hs => h (ss_get hs (by omega) hk))
theorem ret_b {a b : Bool} (h : a = b) : Ending.returned (.bool a) = .returned (.bool b) := by rw [h]

set_option maxRecDepth 100000 in
theorem sorted_any (ao : Option Addr) (n cap : Nat) (l : List Str) (w : World) (R : Rd w (.slice ao n cap) (ss l)) :
    Calls Try.prog 68 #[.slice ao n cap] w fun e w' => e = .returned (.bool (ssB l)) ∧ Below w.heap.size w w' := by
  obtain ⟨hn, h1, h2, h3⟩ := rds_open R
  obtain ⟨r, hr⟩ : ∃ r, r = ssB l := ⟨_, rfl⟩
  rw [← hr]
  have HR := hid_of hr
  have HN := hid_of hn
  clear hr R hn
  rcases h3 with h3 | ⟨g, o, rfl, hg, hc⟩
  · have RF : Hid (r = true) := hid_of (by rw [HR.out, h3]; rfl)
    obtain rfl : n = 0 := by rw [HN.out, h3]; rfl
    clear h3 HN
    go_enter Try.func68, Try.ntmps68
    go_wp2
    go_loopw [3, 6] (fun xv iv wr => ∃ v : Value, xv = v ∧ iv = .int .i64 0 ∧ w = wr) (fun _ iv _ => 0)
    case atStart => exact ⟨_, rfl, rfl, rfl⟩
    case round =>
      obtain ⟨v, rfl, rfl, rfl⟩ := hrel
      go_wp2
      go_ret
      exact ⟨ret_b RF.out.symm, Below.refl _ _⟩
  · have HC := hid_of hc
    clear hc
    go_enter Try.func68, Try.ntmps68
    go_wp2
    go_loopw [3, 6] (fun xv iv wr => ∃ (k : Nat) (v : Value), xv = v ∧ k ≤ n ∧ iv = .int .i64 k ∧ Hid (ssTo l k) ∧ Hid (Below w.heap.size w wr)) (fun _ iv _ => n - (intOf iv).toNat)
    case atStart => exact ⟨0, _, rfl, Nat.zero_le _, rfl, hid_of (fun i hi => by omega), hid_of (Below.refl _ _)⟩
    case round =>
      obtain ⟨k, v, rfl, hk, rfl, hs, hb⟩ := hrel
      by_cases hlt : k < n
      · have hd : decide (k < n) = true := by simp; omega
        have hkl : Hid (k < l.length) := hid_of (by have := HN.out; omega)
        by_cases h0 : k = 0
        · have g0 : decide (0 < k) = false := by simp; omega
          have HS2 : Hid (ssTo l (k + 1)) := hid_of (fun i hi => by omega)
          clear h0
          go_wp2
          go_quiet (fail)
          go_wp2
          go_roundw
          case rel => exact ⟨k + 1, _, rfl, by omega, by go_num, HS2, hid_of (bel_drewN hb.out _)⟩
          case measure => simp [intOf]; omega
        · have g0 : decide (0 < k) = true := by simp; omega
          obtain ⟨p, hpk⟩ : ∃ p, p + 1 = k := ⟨k - 1, by omega⟩
          have hpl : Hid (p < l.length) := hid_of (by have := HN.out; omega)
          obtain ⟨bk, hbk⟩ : ∃ b, b = ba (l[k]'hkl.out) := ⟨_, rfl⟩
          obtain ⟨bp, hbp⟩ : ∃ b, b = ba (l[p]'hpl.out) := ⟨_, rfl⟩
          have c1 := (hb.out.cell (p := ⟨g, o + k, none⟩) hg).trans (HC.out k _ (List.getElem?_eq_getElem hkl.out))
          have c2 := (hb.out.cell (p := ⟨g, o + p, none⟩) hg).trans (HC.out p _ (List.getElem?_eq_getElem hpl.out))
          rw [← hbk] at c1
          rw [← hbp] at c2
          have s1 : IntKind.i64.wrap ((k : Int) - 1) = (p : Int) := by rw [IntWalk.i64_in _ (by omega)]; omega
          have b1 : (k : Int) < (n : Int) := by omega
          have b2 : (p : Int) < (n : Int) := by omega
          have b3 : (0 : Int) ≤ (k : Int) := by omega
          have b4 : (0 : Int) ≤ (p : Int) := by omega
          have HP := hid_of hpk
          clear hpk h0
          by_cases e : (l[p]'hpl.out) < (l[k]'hkl.out)
          · have t1 := lt_f hbk hbp (str_asym e)
            have t2 := eq_f hbk hbp (fun e2 => str_irr _ (e2 ▸ e))
            have HS2 := hid_of (ssTo_succ hs.out HP.out (by rw [getD_of hpl.out, getD_of hkl.out]; exact e))
            clear hbp hbk e
            go_wp2
            go_quiet (fail)
            clear s1
            go_wp2
            go_roundw
            case rel => exact ⟨k + 1, _, rfl, by omega, by go_num, HS2, hid_of (bel_drewN hb.out _)⟩
            case measure => simp [intOf]; omega
          · have RF : Hid (r = false) := hid_of (by rw [HR.out]; exact ssB_no HP.out hkl.out (by rw [getD_of hpl.out, getD_of hkl.out]; exact e))
            have t1 : (Op.bytesLess bk.toList bp.toList || bk.toList == bp.toList) = true := by
              rcases str_tri (l[p]'hpl.out) (l[k]'hkl.out) with h | h | h
              · exact absurd h e
              · rw [eq_t hbk hbp h.symm]; simp
              · rw [lt_t hbk hbp h]; simp
            clear hbp hbk e
            go_wp2
            go_quiet (fail)
            clear s1
            go_wp2
            go_ret
            exact ⟨ret_b RF.out.symm, bel_drewN hb.out _⟩
      · have hd : decide (k < n) = false := by simp; omega
        have RF : Hid (r = true) := hid_of (by rw [HR.out]; exact ssB_yes HN.out (by rw [show n = k by omega]; exact hs.out))
        go_wp2
        go_ret
        exact ⟨ret_b RF.out.symm, hb.out⟩
end Go.Proofs.Ytedohggbpmcehaa
