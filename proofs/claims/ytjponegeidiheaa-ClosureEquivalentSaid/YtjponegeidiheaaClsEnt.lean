/- Entails. Bounds on sizes alone. -/
import Derived.Test.YtjponegeidiheaaClsTop
import Derived.Deep.RegionHeldLaw
namespace Go.Proofs.Ytjponegeidiheaa
open Go.RowKit

theorem rur_one {w : World} {n : Nat} {po : Option Addr} {pn pc : Nat} {p x : Str} {ps : List Str} {m : Nat × Nat} (k : w.heap.size = n) (R : Rd w (.slice po pn pc) (ss ps)) :
    RuR (w.alloc (.cells #[.slice po pn pc, .string (ba x)] 41 m)) (.slice (some ⟨n, 0, none⟩) 1 1) [(ps, x)] := by
  subst k
  refine ⟨[(.slice po pn pc, .string (ba x))], prd_new, rfl, fun i t r ht hr => ?_⟩
  have hi : i = 0 := by have := (List.getElem?_eq_some_iff.1 ht).1; simp at this; omega
  subst hi
  simp only [List.getElem?_cons_zero, Option.some.injEq] at ht hr
  subst ht hr
  exact ⟨R.at (bel_alloc w _), rfl⟩
/-- The error of universe, rules and a rule. -/
def entE (U : List Str) (rs : List Gr) (r : Gr) : Nat := if chkE U rs = 0 then ruE U r else chkE U rs
theorem chk_one {U : List Str} {rs : List Gr} {r : Gr} (h : chkE U rs = 0) : chkE U [r] = ruE U r := by
  unfold chkE at h ⊢
  by_cases h1 : U.all nameB = false
  · rw [if_pos h1] at h; omega
  · rw [if_neg h1] at h ⊢
    by_cases h2 : ¬ SS U
    · rw [if_pos h2] at h; omega
    · rw [if_neg h2]
      show (if ruE U r = 0 then rusE U [] else ruE U r) = _
      split
      · simp [rusE, *]
      · rfl

section
variable (uo : Option Addr) (un uc : Nat) (U : List Str) (ro : Option Addr) (rn rc : Nat) (rs : List Gr) (po : Option Addr) (pn pc : Nat) (p : List Str) (x : Str) (w : World)
set_option maxRecDepth 100000 in
set_option maxHeartbeats 800000 in
theorem ent_err1 (h : InU w uo un uc U ro rn rc rs) (q : Nat) (hq : chkE U rs = q) (hq0 : q ≠ 0) :
    Calls Try.prog 28 #[.slice uo un uc, .slice ro rn rc, .agg #[.slice po pn pc, .string (ba x)]] w fun e w' => e = .returned (.tuple #[.bool false, .int .i64 q]) ∧ Below w.heap.size w w' := by
  have t1 : ((q : Int) != 0) = true := by simp; omega
  have t2 : ((q : Int) == 0) = false := by simp; omega
  obtain ⟨bx, hbx⟩ : ∃ bx, bx = ba x := ⟨_, rfl⟩
  rw [← hbx]
  have B := bel_alloc w (.cells #[.slice po pn pc, .string bx] 41)
  have HC : Hid (Calls Try.prog 44 #[.slice uo un uc, .slice ro rn rc] (w.alloc (.cells #[.slice po pn pc, .string bx] 41)) fun e w' => e = .returned (.tuple #[.slice none 0 0, .int .i64 q]) ∧ Below w.heap.size w w') := hid_of ((cmp_err (h.at B) hq hq0).mono fun e w' ⟨h1, h2⟩ => ⟨h1, B.trans (h2.mono B.size)⟩)
  clear h hq hq0 B hbx
  go_enter Try.func28, Try.ntmps28
  go_wp2_with (go_at_call 44; ((with_reducible refine (HC.out).mono ?_); (rintro e w1 ⟨rfl, h5⟩)); have B1 := hid_of h5; clear h5)
  go_ret2
  exact ⟨rfl, B1.out⟩
set_option maxRecDepth 100000 in
set_option maxHeartbeats 800000 in
theorem ent_err2 (h : InU w uo un uc U ro rn rc rs) (hp : Rd w (.slice po pn pc) (ss p)) (hpn : pn ≤ 1000000) (h0 : chkE U rs = 0) (q : Nat) (hq : ruE U (p, x) = q) (hq0 : q ≠ 0) :
    Calls Try.prog 28 #[.slice uo un uc, .slice ro rn rc, .agg #[.slice po pn pc, .string (ba x)]] w fun e w' => e = .returned (.tuple #[.bool false, .int .i64 q]) ∧ Below w.heap.size w w' := by
  have t1 : ((q : Int) != 0) = true := by simp; omega
  have t2 : ((q : Int) == 0) = false := by simp; omega
  have hpl : pn = p.length := (rds_open hp).1
  obtain ⟨bx, hbx⟩ : ∃ bx, bx = ba x := ⟨_, rfl⟩
  have B := bel_alloc w (.cells #[.slice po pn pc, .string (ba x)] 41)
  have e0 := heap_alloc_new w (.cells #[.slice po pn pc, .string (ba x)] 41)
  have HC : Hid (Calls Try.prog 44 #[.slice uo un uc, .slice ro rn rc] (w.alloc (.cells #[.slice po pn pc, .string bx] 41)) fun e w1 => ∃ ao cap, e = .returned (.tuple #[.slice ao rn cap, .int .i64 0]) ∧ (w1.cell? ⟨w.heap.size, 0, none⟩ = some (.slice po pn pc) ∧ w1.cell? ⟨w.heap.size, 1, none⟩ = some (.string bx)) ∧
      Hid (Calls Try.prog 44 #[.slice uo un uc, .slice (some ⟨w1.heap.size, 0, none⟩) 1 1] (w1.alloc (.cells #[.slice po pn pc, .string bx] 41)) fun e w' => e = .returned (.tuple #[.slice none 0 0, .int .i64 q]) ∧ Below w.heap.size w w')) := hid_of (by
    rw [hbx]
    refine (cmp_good (h.at B) h0).mono fun e w1 ⟨R, ao, cap, h1, _, _, h4⟩ => ?_
    have e1 := (h4.block _ (lt_of_block e0)).trans e0
    have b1 := B.trans (h4.mono B.size)
    have b2 := bel_alloc w1 (.cells #[.slice po pn pc, .string (ba x)] 41)
    have b12 := b1.trans (b2.mono b1.size)
    refine ⟨ao, cap, h1, ⟨blk_cell (cs := [.slice po pn pc, .string (ba x)]) e1 (j := 0) rfl, blk_cell (cs := [.slice po pn pc, .string (ba x)]) e1 (j := 1) rfl⟩, hid_of ?_⟩
    have hi : InU (w1.alloc (.cells #[.slice po pn pc, .string (ba x)] 41)) uo un uc U (some ⟨w1.heap.size, 0, none⟩) 1 1 [(p, x)] := ⟨h.ru.at b12, rur_one (p := x) rfl (hp.at b1), h.hz, h.un, by omega, fun r hr => by rw [List.mem_singleton.1 hr]; show p.length ≤ _; omega⟩
    exact (cmp_err hi (by rw [chk_one h0]; exact hq) hq0).mono fun e w' ⟨h1, h2⟩ => ⟨h1, b12.trans (h2.mono b12.size)⟩)
  rw [← hbx]
  clear h hq hq0 B hbx e0 hp hpl h0 hpn
  go_enter Try.func28, Try.ntmps28
  go_wp2_with (first
    | (go_at_call 44; ((with_reducible refine (HC.out).mono ?_); (rintro e w1 ⟨ao, cap, rfl, ⟨k0, k1⟩, h5⟩)); have H1 := h5; clear h5)
    | (go_at_call 44; ((with_reducible refine (H1.out).mono ?_); (rintro e w2 ⟨rfl, h5⟩)); have B1 := hid_of h5; clear h5))
  go_ret2
  exact ⟨rfl, B1.out⟩
set_option maxRecDepth 100000 in
set_option maxHeartbeats 1600000 in
theorem ent_good (h : InU w uo un uc U ro rn rc rs) (hp : Rd w (.slice po pn pc) (ss p)) (hpn : pn ≤ 1000000) (h0 : chkE U rs = 0) (h1 : ruE U (p, x) = 0) :
    Calls Try.prog 28 #[.slice uo un uc, .slice ro rn rc, .agg #[.slice po pn pc, .string (ba x)]] w fun e w' => ∃ b, e = .returned (.tuple #[.bool b, .int .i64 0]) ∧ (b = true ↔ DerS rs (fun y => y ∈ p) x) ∧ Below w.heap.size w w' := by
  have hpl : pn = p.length := (rds_open hp).1
  have hul := h.ul
  have hun := h.un
  have hrn := h.rn
  obtain ⟨hU, hok⟩ := chk_ok h0
  obtain ⟨bx, hbx⟩ : ∃ bx, bx = ba x := ⟨_, rfl⟩
  have B := bel_alloc w (.cells #[.slice po pn pc, .string (ba x)] 41)
  have e0 := heap_alloc_new w (.cells #[.slice po pn pc, .string (ba x)] 41)
  have HC : Hid (Calls Try.prog 44 #[.slice uo un uc, .slice ro rn rc] (w.alloc (.cells #[.slice po pn pc, .string bx] 41)) fun e w1 => ∃ ao cap, e = .returned (.tuple #[.slice ao rn cap, .int .i64 0]) ∧ (w1.cell? ⟨w.heap.size, 0, none⟩ = some (.slice po pn pc) ∧ w1.cell? ⟨w.heap.size, 1, none⟩ = some (.string bx)) ∧
      Hid (Calls Try.prog 44 #[.slice uo un uc, .slice (some ⟨w1.heap.size, 0, none⟩) 1 1] (w1.alloc (.cells #[.slice po pn pc, .string bx] 41)) fun e w2 => ∃ g o c2 v0 v1, e = .returned (.tuple #[.slice (some ⟨g, o, none⟩) 1 c2, .int .i64 0]) ∧ 1 ≤ c2 ∧ Hid (∀ W, Below w2.heap.size w2 W → W.cell? ⟨g, o, none⟩ = some v0 ∧ W.cell? ⟨g, o + 1, none⟩ = some v1) ∧
        Hid (∀ W, Below w2.heap.size w2 W → Calls Try.prog 46 #[.int .i64 un, .slice ao rn cap] W fun e w3 => ∃ c, e = .returned (.pointer (some ⟨c, 0, none⟩)) ∧ Below w2.heap.size w2 w3 ∧
          Hid (Calls Try.prog 52 #[.pointer (some ⟨c, 0, none⟩), .agg #[v0, v1]] w3 fun e w4 => ∃ b, e = .returned (.bool b) ∧ (b = true ↔ DerS rs (fun y => y ∈ p) x) ∧ Below w.heap.size w w4 ∧ Below w2.heap.size w2 w4)))) := hid_of (by
    rw [hbx]
    refine (cmp_good (h.at B) h0).mono fun e w1 ⟨R, ao, cap, h1', hcm, hco, h4⟩ => ?_
    have e1 := (h4.block _ (lt_of_block e0)).trans e0
    have b1 := B.trans (h4.mono B.size)
    have b2 := bel_alloc w1 (.cells #[.slice po pn pc, .string (ba x)] 41)
    have b12 := b1.trans (b2.mono b1.size)
    refine ⟨ao, cap, h1', ⟨blk_cell (cs := [.slice po pn pc, .string (ba x)]) e1 (j := 0) rfl, blk_cell (cs := [.slice po pn pc, .string (ba x)]) e1 (j := 1) rfl⟩, hid_of ?_⟩
    have hi : InU (w1.alloc (.cells #[.slice po pn pc, .string (ba x)] 41)) uo un uc U (some ⟨w1.heap.size, 0, none⟩) 1 1 [(p, x)] := ⟨h.ru.at b12, rur_one (p := x) rfl (hp.at b1), h.hz, h.un, by omega, fun r hr => by rw [List.mem_singleton.1 hr]; show p.length ≤ _; omega⟩
    refine (cmp_good hi (by rw [chk_one h0]; exact h1)).mono fun e w2 ⟨R2, ao2, c2, g1, g2, g3, g4⟩ => ?_
    obtain ⟨l, q1, q2⟩ := g3
    have hl1 := q1.cut
    have hR2 : R2.length = 1 := g2.len
    obtain ⟨t, ht⟩ : ∃ t, l[0]? = some t := ⟨_, List.getElem?_eq_getElem (by omega)⟩
    obtain ⟨z, hz⟩ : ∃ z, R2[0]? = some z := ⟨_, List.getElem?_eq_getElem (by omega)⟩
    obtain ⟨g, o, rfl, _, _⟩ := q1.get ht
    obtain ⟨o1, o2⟩ := q2.2 0 t z ht hz
    obtain ⟨i1, i2⟩ := g2.at_ 0 (p, x) z rfl hz
    refine ⟨g, o, c2, t.1, t.2, g1, hl1.2.1, hid_of fun W hb => ?_, hid_of fun W hb => ?_⟩
    · obtain ⟨g', o', e', k0, k1⟩ := (q1.at hb).get ht
      simp only [Option.some.injEq, Addr.mk.injEq] at e'
      obtain ⟨rfl, rfl, _⟩ := e'
      rw [Nat.zero_mul, Nat.add_zero] at k0 k1
      exact ⟨k0, k1⟩
    have b4 := b2.trans (g4.mono b2.size)
    refine (new_any 0 un R ao rn cap W ?_ (by rw [hul]; exact cmp_ok hU hcm fun r hr => (hok r hr).1) hun hrn).mono ?_
    · obtain ⟨l', r1, r2⟩ := (hco.at b4).at hb
      exact ⟨l', r1, r2.1, fun i t q ht hq => ⟨own_base (r2.2 i t q ht hq).1, own_base (r2.2 i t q ht hq).2⟩⟩
    · rintro e w3 ⟨c, rfl, _, V, S, n1, n2, n3, _⟩
      have bW := hb.trans (n2.mono hb.size)
      have o1' := own_same o1 fun k hk => bW.block k (own_lt o1 hk)
      have o2' := own_same o2 fun k hk => bW.block k (own_lt o2 hk)
      refine ⟨c, rfl, bW, hid_of ?_⟩
      refine (ent_any c un 0 R off0 [] V S z.1 z.2 t.1 t.2 w3 n1 (Nat.zero_le _) (own_rd o1') (own_rd o2') (fun g hg => ⟨own_lt o1' hg, fun hs => by have := own_lt o1 hg; have := n3 g hs; have := hb.size; omega⟩) (fun g hg => ⟨own_lt o2' hg, fun hs => by have := own_lt o2 hg; have := n3 g hs; have := hb.size; omega⟩)
        (fun y hy => by rw [hul]; exact i1.lt hy) (fun y hy => by rw [hul]; exact i2.lt hy) hun (fun _ => by unfold off0; omega)).mono ?_
      rintro e w4 ⟨b, T', tv, S', rfl, hb2, _, hch⟩
      have zz := hb.size
      refine ⟨b, rfl, hb2.trans ?_, ?_⟩
      · constructor
        · intro hall
          obtain ⟨i, hi1, hi2⟩ := i2.mem_back (x := x) (by simp)
          exact der_toS hcm i1 (hall i hi1) x hi2
        · intro hd y hy
          obtain ⟨i, k1, k2⟩ := derS_to hU hcm i1 (fun r hr => ⟨(hok r hr).2.1, (hok r hr).2.2⟩) hd
          obtain ⟨x', k3, k4⟩ := i2.mem hy
          rw [List.mem_singleton.1 k3] at k4
          rw [ss_inj hU k4 k1]; exact k2
      · have b24 := b12.trans (g4.mono b12.size)
        have b2W := b24.trans (hb.mono b24.size)
        have b3 := b2W.trans (n2.mono b2W.size)
        exact ⟨b3.trans (hch.below b3.size (fun k hk => Nat.le_trans b2W.size (n3 k hk))), bW.trans (hch.below bW.size (fun k hk => Nat.le_trans hb.size (n3 k hk)))⟩)
  rw [← hbx]
  have hup : un ≤ 9223372036854775807 := by omega
  clear h h0 h1 B hbx e0 hp hpl hpn hul hun hrn hU hok
  go_enter Try.func28, Try.ntmps28
  go_wp2_with (first
    | (go_at_call 44; ((with_reducible refine (HC.out).mono ?_); (rintro e w1 ⟨ao, cap, rfl, ⟨k0, k1⟩, h5⟩)); have H1 := h5; clear h5)
    | (go_at_call 44; ((with_reducible refine (H1.out).mono ?_); (rintro e w2 ⟨g, o, c2, v0, v1, rfl, hc2, HCE, HN⟩))))
  have BD : Hid (Below w2.heap.size w2 w2.drew) := hid_of (Below.refl _ _).drew
  obtain ⟨y0, y1⟩ := HCE.out w2 (Below.refl _ _)
  have hc3 : (0 : Int) < (1 : Int) := by omega
  go_region_held_law (fun W => W.cell? ⟨g, o, none⟩ = some v0 ∧ W.cell? ⟨g, o + 1, none⟩ = some v1) (first | exact HCE.out _ BD.out | exact HCE.out _ B3.out | exact HCE.out _ B4.out) (first
    | (go_at_call 46; ((with_reducible refine (HN.out _ BD.out).mono ?_); (rintro ee w3 ⟨c, rfl, q1, H3⟩; have B3 := hid_of q1; clear q1)))
    | (go_at_call 52; ((with_reducible refine (H3.out).mono ?_); (rintro ee w4 ⟨b, rfl, q1, q2, q3⟩; have EB := hid_of q1; have BF := hid_of q2; have B4 := hid_of q3; clear q1 q2 q3))))
  all_goals go_wp2
  go_ret2
  exact ⟨b, rfl, EB.out, BF.out⟩
end
end Go.Proofs.Ytjponegeidiheaa
