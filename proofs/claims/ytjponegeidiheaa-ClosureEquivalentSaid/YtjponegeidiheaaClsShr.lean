/- shrink: the last names of the trail are taken back. Bounds on sizes alone. -/
import Derived.Test.YtjponegeidiheaaClsGrw
namespace Go.Proofs.Ytjponegeidiheaa
open Go.RowKit

theorem from_any (ao : Option Addr) (len cap s : Nat) (hs : s ≤ len) : ∃ A, (∀ wx, (Instr.slice 56 (.slice ao len cap) (some (.int .i64 (s : Int))) none none).run Try.prog wx = .ok (.slice A (len - s) (cap - s)) wx) ∧
    (∀ g, ao = some ⟨g, 0, none⟩ → s < len → len ≤ cap → A = some ⟨g, s, none⟩) := by
  obtain ⟨i0, hi, hz0, hz1, hz2⟩ := info_parts intsE.info
  have he : Try.prog.elem 56 = 3 := by kernel_rfl
  have ht : Try.prog.underlying 56 = some (.slice (Try.prog.elem 56)) := by rw [he]; exact Try.underlying56
  have hsz : ∀ wx, (sizeOf (Try.prog.elem 56)).run Try.prog wx = .ok 1 wx := fun wx => by
    rw [he]
    simp [sizeOf, typeInfo, hi, hz1]
  refine ⟨if cap = s then ao else ao.map (·.add (s * 1)), fun wx => ?_, fun g hg hlt hc => ?_⟩
  · rw [run_slice_l (t := 56) (ht := ht) (h0 := by omega) (h1 := by omega), hsz]
    rfl
  · rw [if_neg (by omega), hg, Option.map_some, Addr.add_mid, Nat.zero_add, Nat.mul_one]

theorem mixL_back {R : List Hrl} {off : Nat → Nat} {C : List Nat} {a i : Nat} (hi : i < R.length) : mixL R off (usesF R a) (usesF R a).length (C ++ [a]) C i = lackR R off C i := by
  unfold mixL
  rw [List.take_length]
  by_cases h : i ∈ usesF R a
  · rw [if_pos h]
  · rw [if_neg h]; exact (lackR_out hi h).symm
def hsF (T : List Nat) (s j i : Nat) : Bool := memB T i && !(memB ((T.drop s).take j) i)
theorem hsF_next {T : List Nat} {s j x : Nat} (h : (T.drop s)[j]? = some x) (i : Nat) : (if i = x then false else hsF T s j i) = hsF T s (j + 1) i := by
  unfold hsF memB
  rw [take_snoc_get h]
  by_cases e : i = x <;> simp [e]
theorem hsF_end {T : List Nat} (hn : T.Nodup) (s j i : Nat) (hj : T.length ≤ s + j) : hsF T s j i = memB (T.take s) i := by
  unfold hsF memB
  rw [List.take_of_length_le (by rw [List.length_drop]; omega)]
  have h1 : i ∈ T ↔ i ∈ T.take s ∨ i ∈ T.drop s := by
    rw [← List.mem_append, List.take_append_drop]
  have h2 : i ∈ T.take s → i ∉ T.drop s := fun h3 h4 => by
    have := hn
    rw [← List.take_append_drop s T, List.nodup_append] at this
    exact this.2.2 i h3 i h4 rfl
  by_cases a1 : i ∈ T.take s
  · simp [h1, a1, h2 a1]
  · by_cases a2 : i ∈ T.drop s <;> simp [h1, a1, a2]
def ShrA (w : World) (c n : Nat) (R : List Hrl) (off : Nat → Nat) (T : List Nat) (k s : Nat) (V : CV) (S : Nat → Prop) (j : Nat) (wr : World) : Prop :=
  CH wr c n R (lackR R off (T.take k)) (hsF T s j) T k V S ∧ Chg S S w wr
def ShrB (w : World) (c n : Nat) (R : List Hrl) (off : Nat → Nat) (T : List Nat) (k s : Nat) (V : CV) (S : Nat → Prop) (kj : Nat) (wr : World) : Prop :=
  CH wr c n R (lackR R off (T.take kj)) (memB (T.take s)) T kj V S ∧ Chg S S w wr ∧ kj ≤ k ∧ (kj = k ∨ s ≤ kj)
def ShrC (w : World) (c n : Nat) (R : List Hrl) (off : Nat → Nat) (T : List Nat) (k s : Nat) (V : CV) (S : Nat → Prop) (kj km a j : Nat) (wr : World) : Prop :=
  CH wr c n R (mixL R off (usesF R a) j (T.take kj) (T.take km)) (memB (T.take s)) T kj V S ∧ Chg S S w wr ∧ kj ≤ k ∧ s ≤ km
def ShrP (w : World) (c n : Nat) (R : List Hrl) (off : Nat → Nat) (T : List Nat) (k s : Nat) (V : CV) (S : Nat → Prop) (e : Ending) (w' : World) : Prop :=
  e = .returned (.tuple #[]) ∧ ∃ tv, CH w' c n R (lackR R off ((T.take s).take (min k s))) (memB (T.take s)) (T.take s) (min k s) { V with tv := tv } S ∧ Chg S S w w'

set_option maxRecDepth 100000 in
set_option maxHeartbeats 1600000 in
theorem shr_any (c n s k : Nat) (R : List Hrl) (off : Nat → Nat) (T : List Nat) (V : CV) (S : Nat → Prop) (w : World) (h : CH w c n R (lackR R off (T.take k)) (memB T) T k V S) (hk : k ≤ T.length) (hs : s ≤ T.length) (hn : n ≤ 1000000) (hR : ∀ i, off i ≤ 1) :
    Calls Try.prog 69 #[.pointer (some ⟨c, 0, none⟩), .int .i64 s] w (ShrP w c n R off T k s V S) := by
  obtain ⟨ta, tc, htv⟩ := h.tvs
  have htr := h.tr
  rw [htv] at htr
  have hlen := h.len
  obtain ⟨hTc, htc⟩ : T.length ≤ tc ∧ tc ≤ 9223372036854775807 := by
    rcases own_shape2 htr with ⟨h5, h6⟩ | ⟨_, _, h5, _, h6, h7⟩
    · simp only [Value.slice.injEq] at h5; omega
    · simp only [Value.slice.injEq] at h5; omega
  obtain ⟨A, hA1, hA2⟩ := from_any ta T.length tc s hs
  have HA : Hid (∀ j wr, ShrA w c n R off T k s V S j wr → j < T.length - s → ∃ g x : Nat, A = some ⟨g, s, none⟩ ∧ wr.cell? ⟨g, s + j, none⟩ = some (.int .i64 (x : Int)) ∧ x < n ∧ wr.cell? ⟨c, 4, none⟩ = some (.slice (some ⟨V.gh, 0, none⟩) n n) ∧ (∃ b, wr.cell? ⟨V.gh, x, none⟩ = some (.bool b)) ∧ wr.frozen? ⟨V.gh, x, none⟩ = false ∧ ShrA w c n R off T k s V S (j + 1) (wr.setCell ⟨V.gh, x, none⟩ (.bool false))) := hid_of (fun j wr hi hj => by
    obtain ⟨q1, q2⟩ := hi
    obtain ⟨x, hx⟩ : ∃ x, T[s + j]? = some x := ⟨_, List.getElem?_eq_getElem (by omega)⟩
    have hxd : (T.drop s)[j]? = some x := by rw [List.getElem?_drop]; exact hx
    have hxn : x < n := h.tn x (List.mem_of_getElem? hx)
    have q3 := q1.tr
    rw [htv] at q3
    obtain ⟨g, rfl⟩ : ∃ g, ta = some ⟨g, 0, none⟩ := by
      rcases q3.2 with ⟨_, h6⟩ | ⟨g, _, _, h5, _⟩
      · omega
      · simp only [Value.slice.injEq] at h5; exact ⟨g, h5.1⟩
    exact ⟨g, x, hA2 g rfl (by omega) hTc, own_cell q3 (ints_get hx), hxn, q1.cell (j := 4) rfl, ⟨_, q1.hasc hxn⟩, q1.hasf x, (q1.setHas x false).conv (fun _ _ => rfl) (fun i _ => hsF_next hxd i), q2.trans (chg_set q1.sh)⟩)
  have HAB : Hid (∀ wr, ShrA w c n R off T k s V S (T.length - s) wr → ShrB w c n R off T k s V S k wr) := hid_of (fun wr hi => ⟨hi.1.conv (fun _ _ => rfl) (fun i _ => hsF_end h.nd s _ i (by omega)), hi.2, Nat.le_refl _, .inl rfl⟩)
  have HA0 : Hid (ShrA w c n R off T k s V S 0 w) := hid_of ⟨h.conv (fun _ _ => rfl) (fun i _ => by unfold hsF; simp [memB]), Chg.refl _ _⟩
  have HB : Hid (∀ kj wr, ShrB w c n R off T k s V S kj wr → (wr.cell? ⟨c, 6, none⟩ = some (.int .i64 (kj : Int)) ∧ wr.cell? ⟨c, 5, none⟩ = some (.slice ta T.length tc) ∧ wr.frozen? ⟨c, 5, none⟩ = false ∧ kj ≤ 1000000) ∧
      (kj ≤ s → ∀ e, e = .returned (.tuple #[]) → ShrP w c n R off T k s V S e (wr.setCell ⟨c, 5, none⟩ (.slice ta s tc))) ∧
      (s < kj → ∃ km a gt uo um uc, km + 1 = kj ∧ ta = some ⟨gt, 0, none⟩ ∧ km < T.length ∧ a < n ∧ um = (usesF R a).length ∧ um ≤ 9223372036854775807 ∧ wr.cell? ⟨gt, km, none⟩ = some (.int .i64 (a : Int)) ∧ wr.cell? ⟨c, 1, none⟩ = some (.slice (some ⟨V.gu, 0, none⟩) n n) ∧ wr.cell? ⟨V.gu, a, none⟩ = some (.slice uo um uc) ∧ V.ur[a]? = some (.slice uo um uc) ∧ T[km]? = some a ∧
        ∀ q, ShrC w c n R off T k s V S kj km a 0 (wr.drewN q))) := hid_of (fun kj wr hi => by
    obtain ⟨q1, q2, q3, q4⟩ := hi
    refine ⟨⟨q1.cell (j := 6) rfl, by have := q1.cell (j := 5) rfl; rw [htv] at this; exact this, q1.free 5, by omega⟩, fun hle e he => ?_, fun hlt => ?_⟩
    · have e1 : kj = min k s := by omega
      subst e1
      have p1 := q1.cut htv hs
      refine ⟨he, .slice ta s tc, ?_, q2.trans (chg_set q1.sc)⟩
      rw [List.take_take, Nat.min_eq_left hle]
      exact p1
    · obtain ⟨km, rfl⟩ : ∃ km, kj = km + 1 := ⟨kj - 1, by omega⟩
      obtain ⟨a, ha⟩ : ∃ a, T[km]? = some a := ⟨_, List.getElem?_eq_getElem (by omega)⟩
      have han : a < n := h.tn a (List.mem_of_getElem? ha)
      have p3 := q1.tr
      rw [htv] at p3
      obtain ⟨gt, rfl⟩ : ∃ g, ta = some ⟨g, 0, none⟩ := by
        rcases p3.2 with ⟨_, h6⟩ | ⟨g, _, _, h5, _⟩
        · omega
        · simp only [Value.slice.injEq] at h5; exact ⟨g, h5.1⟩
      obtain ⟨uv, huv⟩ : ∃ uv, V.ur[a]? = some uv := ⟨_, List.getElem?_eq_getElem (by rw [h.ul]; exact han)⟩
      obtain ⟨uo, uc, huv2⟩ := own_shape (q1.us a uv huv)
      subst huv2
      have hmc : (usesF R a).length ≤ 9223372036854775807 := by
        rcases own_shape2 (q1.us a _ huv) with ⟨_, h6⟩ | ⟨_, _, h5, _, h6, h7⟩
        · omega
        · omega
      have hd : ∀ q, Below wr.heap.size wr (wr.drewN q) := fun q => bel_drewN (Below.refl _ _) q
      exact ⟨km, a, gt, uo, (usesF R a).length, uc, rfl, rfl, by omega, han, rfl, hmc, own_cell p3 (ints_get ha), q1.cell (j := 1) rfl, blk_cell q1.uu huv, huv, ha, fun q => ⟨(q1.at (hd q)).conv (fun i _ => (mixL_zero _ _ _ _ _ _).symm) (fun _ _ => rfl), q2.trans (Chg.ofBelow (hd q)), q3, by omega⟩⟩)
  have HC : Hid (∀ kj km a uo um uc j wr, km + 1 = kj → T[km]? = some a → V.ur[a]? = some (.slice uo um uc) → um = (usesF R a).length → ShrC w c n R off T k s V S kj km a j wr → wr.cell? ⟨c, 6, none⟩ = some (.int .i64 (kj : Int)) ∧ wr.frozen? ⟨c, 6, none⟩ = false ∧ 
      (j = um → ShrB w c n R off T k s V S km (wr.setCell ⟨c, 6, none⟩ (.int .i64 (km : Int)))) ∧
      (j < um → ∃ r y gr go gl lc mR : Nat, wr.cell? ⟨c, 3, none⟩ = some (.slice (some ⟨gl, 0, none⟩) mR lc) ∧ wr.cell? ⟨gr, go + j, none⟩ = some (.int .i64 (r : Int)) ∧ uo = some ⟨gr, go, none⟩ ∧ r < mR ∧ mR ≤ 9223372036854775807 ∧
        wr.cell? ⟨gl, r, none⟩ = some (.int .i64 (y : Int)) ∧ wr.frozen? ⟨gl, r, none⟩ = false ∧ y ≤ 2000000 ∧ ShrC w c n R off T k s V S kj km a (j + 1) (wr.setCell ⟨gl, r, none⟩ (.int .i64 ((y : Int) + 1))))) := hid_of (fun kj km a uo um uc j wr hkm ha huv hum hi => by
    subst hkm
    obtain ⟨q1, q2, q3, q4⟩ := hi
    have et := take_snoc_get ha
    refine ⟨q1.cell (j := 6) rfl, q1.free 6, fun hj => ?_, fun hj => ?_⟩
    · refine ⟨((q1.setCount km).conv (fun i hi => ?_) (fun _ _ => rfl)), q2.trans (chg_set q1.sc), by omega, .inr q4⟩
      rw [hj, hum, et]; exact mixL_back hi
    · obtain ⟨r, hr⟩ : ∃ r, (usesF R a)[j]? = some r := ⟨_, List.getElem?_eq_getElem (by omega)⟩
      have hrm : r ∈ usesF R a := List.mem_of_getElem? hr
      have hrR : r < R.length := (mem_usesF.1 hrm).1
      obtain ⟨lo, lc, hlv⟩ := own_shape q1.la
      have hlo := q1.la
      rw [hlv] at hlo
      obtain ⟨gl, rfl⟩ : ∃ g, lo = some ⟨g, 0, none⟩ := by
        rcases hlo.2 with ⟨_, h6⟩ | ⟨g, _, _, h5, _⟩
        · omega
        · simp only [Value.slice.injEq] at h5; exact ⟨g, h5.1⟩
      have hus := q1.us a _ huv
      rw [← hum] at hus
      obtain ⟨gr, rfl⟩ : ∃ g, uo = some ⟨g, 0, none⟩ := by
        rcases hus.2 with ⟨_, h6⟩ | ⟨g, _, _, h5, _⟩
        · omega
        · simp only [Value.slice.injEq] at h5; exact ⟨g, h5.1⟩
      have hlen : R.length ≤ 9223372036854775807 := by
        rcases own_shape2 hlo with ⟨h5, _⟩ | ⟨_, _, h5, _, h6, h7⟩
        · cases h5
        · omega
      have hy : lackR R off (T.take km) r = lackR R off (T.take (km + 1)) r + 1 := by rw [et]; exact lackR_step (not_take h.nd ha) hrm (h.pn r hrR).1
      have hyb : lackR R off (T.take (km + 1)) r ≤ 2000000 := by
        have p1 := lackF_le (prem R r) (T.take (km + 1))
        have p2 := nodup_bound n (prem R r) (h.pn r hrR).1 (h.pn r hrR).2
        have p3 := hR r
        unfold lackR
        omega
      refine ⟨r, lackR R off (T.take (km + 1)) r, gr, 0, gl, lc, R.length, ?_, ?_, rfl, hrR, hlen, ?_, own_free hlo r, hyb, ?_, q2.trans (chg_set (q1.sl gl (by rw [hlv]; rfl))), q3, q4⟩
      · have := q1.cell (j := 3) rfl
        rw [hlv] at this; exact this
      · rw [Nat.zero_add]; exact own_cell hus (ints_get hr)
      · have := own_cell hlo (lks_get _ hrR)
        rw [mixL_at (usesF_nodup R a) hr] at this; exact this
      · exact (q1.setLack (i := r) (x := lackR R off (T.take (km + 1)) r + 1) hlv).conv (fun i _ => by
          have e := mixL_next (R := R) (off := off) (C := T.take (km + 1)) (C' := T.take km) hr i
          rw [hy] at e
          exact e) (fun _ _ => rfl))
  have c5 : w.cell? ⟨c, 5, none⟩ = some (.slice ta T.length tc) := by have := h.cell (j := 5) rfl; rw [htv] at this; exact this
  obtain ⟨m, hm⟩ : ∃ m, m = T.length := ⟨_, rfl⟩
  obtain ⟨q, hq⟩ : ∃ q, q = T.length - s := ⟨_, rfl⟩
  have hqm : q ≤ 1000000 := by omega
  have hsm : s ≤ m := by omega
  have hmt : m ≤ tc := by omega
  rw [← hm] at c5 HB
  rw [← hq, ← hm] at hA1
  rw [← hq] at HA HAB
  clear h hk hs hn hR htv htr hA2 hm hq hlen
  have hTc2 : tc ≤ 9223372036854775807 := htc
  clear hTc htc
  go_enter Try.func69, Try.ntmps69
  go_wp2
  go_loopw [5, 15] (fun xv iv wr => ∃ (j : Nat) (v : Value), xv = v ∧ j ≤ q ∧ iv = .int .i64 j ∧ Hid (ShrA w c n R off T k s V S j wr)) (fun _ iv _ => q - (intOf iv).toNat)
  case atStart => exact ⟨0, _, rfl, Nat.zero_le _, rfl, HA0⟩
  case round =>
    obtain ⟨j, v, rfl, hj, rfl, hi⟩ := hrel
    by_cases hlt : j < q
    · have hd : decide (j < q) = true := by simp; omega
      obtain ⟨g, x, hAe, e1, e2, e3, ⟨b, e4⟩, e5, e6⟩ := HA.out j wr hi.out hlt
      subst hAe
      have HN := hid_of e6
      clear e6 hi
      go_wp2
      go_roundw
      case rel => exact ⟨j + 1, _, rfl, by omega, by go_num, HN⟩
      case measure => simp [intOf]; omega
    · have hd : decide (j < q) = false := by simp; omega
      obtain rfl : j = q := by omega
      have HB0 := hid_of (HAB.out wr hi.out)
      clear hi HA HA0 HAB hA1 hlt
      go_wp2
      go_loopg [31] k (fun kj xv wr => ∃ v : Value, xv = v ∧ Hid (ShrB w c n R off T k s V S kj wr))
      case atStart => exact ⟨_, rfl, HB0⟩
      case round =>
        obtain ⟨v, rfl, hi⟩ := hrel
        obtain ⟨⟨e1, e2, e3, e4⟩, e5, e6⟩ := HB.out _ wr hi.out
        by_cases hlt : s < gk
        · have t1 : decide (s < gk) = true := by simp; omega
          have t2 : decide (gk > s) = true := by simp; omega
          obtain ⟨km, a, gt, uo, um, uc, f1, f2, f3, f4, f5, f6, f7, f8, f9, f10, f11, f12⟩ := e6 hlt
          have HKM := hid_of f1
          have HUM := hid_of f5
          have H10 := hid_of f10
          have H11 := hid_of f11
          have HC0 := hid_of f12

          have w1 : IntKind.i64.wrap ((gk : Int) - 1) = (km : Int) := by rw [IntWalk.i64_in _ (by omega)]; omega
          have w2 : (gk : Int) - 1 = (km : Int) := by omega
          have w3 : km ≤ 1000000 := by omega
          clear e5 e6 hi f1 f5 f10 f11 f12 hlt
          subst f2
          go_wp2
          go_quiet (fail)
          have HC1 := hid_of (HC0.out nq)
          clear HC0 w1 e1 e2 e3 f7 f8 f9
          generalize wr.drewN nq = wz at *
          go_wp2
          obtain ⟨wo, rfl⟩ : ∃ wo : World, wo = wr := ⟨_, rfl⟩
          go_loopw [7, 57] (fun xv iv wr => ∃ (j : Nat) (v : Value), xv = v ∧ j ≤ um ∧ iv = .int .i64 j ∧ Hid (ShrC w c n R off T k s V S gk km a j wr)) (fun _ iv _ => um - (intOf iv).toNat)
          case atStart => exact ⟨0, _, rfl, Nat.zero_le _, rfl, HC1⟩
          case round =>
            obtain ⟨j, v, rfl, hj, rfl, hi⟩ := hrel
            obtain ⟨g1, g2, g3, g4⟩ := HC.out gk km a uo um uc j wr HKM.out H11.out H10.out HUM.out hi.out
            by_cases hlt : j < um
            · have hd : decide (j < um) = true := by simp; omega
              obtain ⟨r, y, gr, go, gl, lc, mR, i1, i2, i3, i4, i5, i6, i7, i8, i9⟩ := g4 hlt
              subst i3
              have HN := hid_of i9
              clear g1 g2 g3 g4 i9 hi w2
              go_wp2
              go_roundw
              case rel => exact ⟨j + 1, _, rfl, by omega, by go_num, HN⟩
              case measure => simp [intOf]; omega
            · have hd : decide (j < um) = false := by simp; omega
              obtain rfl : j = um := by omega
              have HN := hid_of (g3 rfl)
              clear g3 g4 hi hlt
              go_wp2
              go_roundg km
              case measure => have := HKM.out; omega
              case rel => exact ⟨_, rfl, HN⟩
        · have t1 : decide (s < gk) = false := by simp; omega
          have t2 : decide (gk > s) = false := by simp; omega
          have HN := hid_of (e5 (by omega))
          clear e5 e6 hi
          go_wp2
          go_end0
          exact HN.out _ rfl
end Go.Proofs.Ytjponegeidiheaa
