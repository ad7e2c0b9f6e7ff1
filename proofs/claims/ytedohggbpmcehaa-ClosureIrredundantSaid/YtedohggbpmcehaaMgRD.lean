/- Texts in one: ClsEnt, ClsDis, ClsRmv, ClsWo, ClsPst, ClsMpi, ClsHas, ClsHvy, ClsCld, ClsRcl, ClsSrt. -/
import Derived.Test.YtedohggbpmcehaaMgRC
import Derived.Deep.RegionHeldLaw
import Derived.Deep.RegionLaw
import Derived.Maps.OwnOps
import Derived.Maps.Views
import Derived.StringKeys
import Derived.DeepKeys5
import Derived.Lib.Join
/- Entails. Bounds on sizes alone. -/
namespace Go.Proofs.Ytedohggbpmcehaa
open Go.RowKit

theorem rur_one {w : World} {n : Nat} {po : Option Addr} {pn pc : Nat} {p x : Str} {ps : List Str} {m : Nat × Nat} (k : w.heap.size = n) (R : Rd w (.slice po pn pc) (ss ps)) :
    RuR (w.alloc (.cells #[.slice po pn pc, .string (ba x)] 41 m)) (.slice (some ⟨n, 0, none⟩) 1 1) [(ps, x)] := by
  subst k
  refine ⟨[(.slice po pn pc, .string (ba x))], prd_new, rfl, fun i t r ht hr => ?_⟩
  have hi : i = 0 := by have := (List.getElem?_eq_some_iff.1 ht).1; simp at this; omega
  subst hi
  simp only [List.getElem?_cons_zero, Option.some.injEq] at ht hr
  subst ht hr
  exact ⟨R.at (bel_alloc w _), rfl⟩
/-- The error of universe, rules and a rule. -/
def entE (U : List Str) (rs : List Gr) (r : Gr) : Nat := if chkE U rs = 0 then ruE U r else chkE U rs
theorem chk_one {U : List Str} {rs : List Gr} {r : Gr} (h : chkE U rs = 0) : chkE U [r] = ruE U r := by
  unfold chkE at h ⊢
  by_cases h1 : U.all nameB = false
  · rw [if_pos h1] at h; omega
  · rw [if_neg h1] at h ⊢
    by_cases h2 : ¬ SS U
    · rw [if_pos h2] at h; omega
    · rw [if_neg h2]
      show (if ruE U r = 0 then rusE U [] else ruE U r) = _
      split
      · simp [rusE, *]
      · rfl

section
variable (uo : Option Addr) (un uc : Nat) (U : List Str) (ro : Option Addr) (rn rc : Nat) (rs : List Gr) (po : Option Addr) (pn pc : Nat) (p : List Str) (x : Str) (w : World)
set_option maxRecDepth 100000 in
set_option maxHeartbeats 800000 in
theorem ent_err1 (h : InU w uo un uc U ro rn rc rs) (q : Nat) (hq : chkE U rs = q) (hq0 : q ≠ 0) :
    Calls Try.prog 28 #[.slice uo un uc, .slice ro rn rc, .agg #[.slice po pn pc, .string (ba x)]] w fun e w' => e = .returned (.tuple #[.bool false, .int .i64 q]) ∧ Below w.heap.size w w' := by
  have t1 : ((q : Int) != 0) = true := by simp; omega
  have t2 : ((q : Int) == 0) = false := by simp; omega
  obtain ⟨bx, hbx⟩ : ∃ bx, bx = ba x := ⟨_, rfl⟩
  rw [← hbx]
  have B := bel_alloc w (.cells #[.slice po pn pc, .string bx] 41)
  have HC : Hid (Calls Try.prog 44 #[.slice uo un uc, .slice ro rn rc] (w.alloc (.cells #[.slice po pn pc, .string bx] 41)) fun e w' => e = .returned (.tuple #[.slice none 0 0, .int .i64 q]) ∧ Below w.heap.size w w') := hid_of ((cmp_err (h.at B) hq hq0).mono fun e w' ⟨h1, h2⟩ => ⟨h1, B.trans (h2.mono B.size)⟩)
  clear h hq hq0 B hbx
  go_enter Try.func28, Try.ntmps28
  go_wp2_with (go_at_call 44; ((with_reducible refine (HC.out).mono ?_); (rintro e w1 ⟨rfl, h5⟩)); have B1 := hid_of h5; clear h5)
  go_ret2
  exact ⟨rfl, B1.out⟩
set_option maxRecDepth 100000 in
set_option maxHeartbeats 800000 in
theorem ent_err2 (h : InU w uo un uc U ro rn rc rs) (hp : Rd w (.slice po pn pc) (ss p)) (hpn : pn ≤ 1000000) (h0 : chkE U rs = 0) (q : Nat) (hq : ruE U (p, x) = q) (hq0 : q ≠ 0) :
    Calls Try.prog 28 #[.slice uo un uc, .slice ro rn rc, .agg #[.slice po pn pc, .string (ba x)]] w fun e w' => e = .returned (.tuple #[.bool false, .int .i64 q]) ∧ Below w.heap.size w w' := by
  have t1 : ((q : Int) != 0) = true := by simp; omega
  have t2 : ((q : Int) == 0) = false := by simp; omega
  have hpl : pn = p.length := (rds_open hp).1
  obtain ⟨bx, hbx⟩ : ∃ bx, bx = ba x := ⟨_, rfl⟩
  have B := bel_alloc w (.cells #[.slice po pn pc, .string (ba x)] 41)
  have e0 := heap_alloc_new w (.cells #[.slice po pn pc, .string (ba x)] 41)
  have HC : Hid (Calls Try.prog 44 #[.slice uo un uc, .slice ro rn rc] (w.alloc (.cells #[.slice po pn pc, .string bx] 41)) fun e w1 => ∃ ao cap, e = .returned (.tuple #[.slice ao rn cap, .int .i64 0]) ∧ (w1.cell? ⟨w.heap.size, 0, none⟩ = some (.slice po pn pc) ∧ w1.cell? ⟨w.heap.size, 1, none⟩ = some (.string bx)) ∧
      Hid (Calls Try.prog 44 #[.slice uo un uc, .slice (some ⟨w1.heap.size, 0, none⟩) 1 1] (w1.alloc (.cells #[.slice po pn pc, .string bx] 41)) fun e w' => e = .returned (.tuple #[.slice none 0 0, .int .i64 q]) ∧ Below w.heap.size w w')) := hid_of (by
    rw [hbx]
    refine (cmp_good (h.at B) h0).mono fun e w1 ⟨R, ao, cap, h1, _, _, h4⟩ => ?_
    have e1 := (h4.block _ (lt_of_block e0)).trans e0
    have b1 := B.trans (h4.mono B.size)
    have b2 := bel_alloc w1 (.cells #[.slice po pn pc, .string (ba x)] 41)
    have b12 := b1.trans (b2.mono b1.size)
    refine ⟨ao, cap, h1, ⟨blk_cell (cs := [.slice po pn pc, .string (ba x)]) e1 (j := 0) rfl, blk_cell (cs := [.slice po pn pc, .string (ba x)]) e1 (j := 1) rfl⟩, hid_of ?_⟩
    have hi : InU (w1.alloc (.cells #[.slice po pn pc, .string (ba x)] 41)) uo un uc U (some ⟨w1.heap.size, 0, none⟩) 1 1 [(p, x)] := ⟨h.ru.at b12, rur_one (p := x) rfl (hp.at b1), h.hz, h.un, by omega, fun r hr => by rw [List.mem_singleton.1 hr]; show p.length ≤ _; omega⟩
    exact (cmp_err hi (by rw [chk_one h0]; exact hq) hq0).mono fun e w' ⟨h1, h2⟩ => ⟨h1, b12.trans (h2.mono b12.size)⟩)
  rw [← hbx]
  clear h hq hq0 B hbx e0 hp hpl h0 hpn
  go_enter Try.func28, Try.ntmps28
  go_wp2_with (first
    | (go_at_call 44; ((with_reducible refine (HC.out).mono ?_); (rintro e w1 ⟨ao, cap, rfl, ⟨k0, k1⟩, h5⟩)); have H1 := h5; clear h5)
    | (go_at_call 44; ((with_reducible refine (H1.out).mono ?_); (rintro e w2 ⟨rfl, h5⟩)); have B1 := hid_of h5; clear h5))
  go_ret2
  exact ⟨rfl, B1.out⟩
set_option maxRecDepth 100000 in
set_option maxHeartbeats 1600000 in
theorem ent_good (h : InU w uo un uc U ro rn rc rs) (hp : Rd w (.slice po pn pc) (ss p)) (hpn : pn ≤ 1000000) (h0 : chkE U rs = 0) (h1 : ruE U (p, x) = 0) :
    Calls Try.prog 28 #[.slice uo un uc, .slice ro rn rc, .agg #[.slice po pn pc, .string (ba x)]] w fun e w' => ∃ b, e = .returned (.tuple #[.bool b, .int .i64 0]) ∧ (b = true ↔ DerS rs (fun y => y ∈ p) x) ∧ Below w.heap.size w w' := by
  have hpl : pn = p.length := (rds_open hp).1
  have hul := h.ul
  have hun := h.un
  have hrn := h.rn
  obtain ⟨hU, hok⟩ := chk_ok h0
  obtain ⟨bx, hbx⟩ : ∃ bx, bx = ba x := ⟨_, rfl⟩
  have B := bel_alloc w (.cells #[.slice po pn pc, .string (ba x)] 41)
  have e0 := heap_alloc_new w (.cells #[.slice po pn pc, .string (ba x)] 41)
  have HC : Hid (Calls Try.prog 44 #[.slice uo un uc, .slice ro rn rc] (w.alloc (.cells #[.slice po pn pc, .string bx] 41)) fun e w1 => ∃ ao cap, e = .returned (.tuple #[.slice ao rn cap, .int .i64 0]) ∧ (w1.cell? ⟨w.heap.size, 0, none⟩ = some (.slice po pn pc) ∧ w1.cell? ⟨w.heap.size, 1, none⟩ = some (.string bx)) ∧
      Hid (Calls Try.prog 44 #[.slice uo un uc, .slice (some ⟨w1.heap.size, 0, none⟩) 1 1] (w1.alloc (.cells #[.slice po pn pc, .string bx] 41)) fun e w2 => ∃ g o c2 v0 v1, e = .returned (.tuple #[.slice (some ⟨g, o, none⟩) 1 c2, .int .i64 0]) ∧ 1 ≤ c2 ∧ Hid (∀ W, Below w2.heap.size w2 W → W.cell? ⟨g, o, none⟩ = some v0 ∧ W.cell? ⟨g, o + 1, none⟩ = some v1) ∧
        Hid (∀ W, Below w2.heap.size w2 W → Calls Try.prog 46 #[.int .i64 un, .slice ao rn cap] W fun e w3 => ∃ c, e = .returned (.pointer (some ⟨c, 0, none⟩)) ∧ Below w2.heap.size w2 w3 ∧
          Hid (Calls Try.prog 52 #[.pointer (some ⟨c, 0, none⟩), .agg #[v0, v1]] w3 fun e w4 => ∃ b, e = .returned (.bool b) ∧ (b = true ↔ DerS rs (fun y => y ∈ p) x) ∧ Below w.heap.size w w4 ∧ Below w2.heap.size w2 w4)))) := hid_of (by
    rw [hbx]
    refine (cmp_good (h.at B) h0).mono fun e w1 ⟨R, ao, cap, h1', hcm, hco, h4⟩ => ?_
    have e1 := (h4.block _ (lt_of_block e0)).trans e0
    have b1 := B.trans (h4.mono B.size)
    have b2 := bel_alloc w1 (.cells #[.slice po pn pc, .string (ba x)] 41)
    have b12 := b1.trans (b2.mono b1.size)
    refine ⟨ao, cap, h1', ⟨blk_cell (cs := [.slice po pn pc, .string (ba x)]) e1 (j := 0) rfl, blk_cell (cs := [.slice po pn pc, .string (ba x)]) e1 (j := 1) rfl⟩, hid_of ?_⟩
    have hi : InU (w1.alloc (.cells #[.slice po pn pc, .string (ba x)] 41)) uo un uc U (some ⟨w1.heap.size, 0, none⟩) 1 1 [(p, x)] := ⟨h.ru.at b12, rur_one (p := x) rfl (hp.at b1), h.hz, h.un, by omega, fun r hr => by rw [List.mem_singleton.1 hr]; show p.length ≤ _; omega⟩
    refine (cmp_good hi (by rw [chk_one h0]; exact h1)).mono fun e w2 ⟨R2, ao2, c2, g1, g2, g3, g4⟩ => ?_
    obtain ⟨l, q1, q2⟩ := g3
    have hl1 := q1.cut
    have hR2 : R2.length = 1 := g2.len
    obtain ⟨t, ht⟩ : ∃ t, l[0]? = some t := ⟨_, List.getElem?_eq_getElem (by omega)⟩
    obtain ⟨z, hz⟩ : ∃ z, R2[0]? = some z := ⟨_, List.getElem?_eq_getElem (by omega)⟩
    obtain ⟨g, o, rfl, _, _⟩ := q1.get ht
    obtain ⟨o1, o2⟩ := q2.2 0 t z ht hz
    obtain ⟨i1, i2⟩ := g2.at_ 0 (p, x) z rfl hz
    refine ⟨g, o, c2, t.1, t.2, g1, hl1.2.1, hid_of fun W hb => ?_, hid_of fun W hb => ?_⟩
    · obtain ⟨g', o', e', k0, k1⟩ := (q1.at hb).get ht
      simp only [Option.some.injEq, Addr.mk.injEq] at e'
      obtain ⟨rfl, rfl, _⟩ := e'
      rw [Nat.zero_mul, Nat.add_zero] at k0 k1
      exact ⟨k0, k1⟩
    have b4 := b2.trans (g4.mono b2.size)
    refine (new_any 0 un R ao rn cap W ?_ (by rw [hul]; exact cmp_ok hU hcm fun r hr => (hok r hr).1) hun hrn).mono ?_
    · obtain ⟨l', r1, r2⟩ := (hco.at b4).at hb
      exact ⟨l', r1, r2.1, fun i t q ht hq => ⟨own_base (r2.2 i t q ht hq).1, own_base (r2.2 i t q ht hq).2⟩⟩
    · rintro e w3 ⟨c, rfl, _, V, S, n1, n2, n3, _⟩
      have bW := hb.trans (n2.mono hb.size)
      have o1' := own_same o1 fun k hk => bW.block k (own_lt o1 hk)
      have o2' := own_same o2 fun k hk => bW.block k (own_lt o2 hk)
      refine ⟨c, rfl, bW, hid_of ?_⟩
      refine (ent_any c un 0 R off0 [] V S z.1 z.2 t.1 t.2 w3 n1 (Nat.zero_le _) (own_rd o1') (own_rd o2') (fun g hg => ⟨own_lt o1' hg, fun hs => by have := own_lt o1 hg; have := n3 g hs; have := hb.size; omega⟩) (fun g hg => ⟨own_lt o2' hg, fun hs => by have := own_lt o2 hg; have := n3 g hs; have := hb.size; omega⟩)
        (fun y hy => by rw [hul]; exact i1.lt hy) (fun y hy => by rw [hul]; exact i2.lt hy) hun (fun _ => by unfold off0; omega)).mono ?_
      rintro e w4 ⟨b, T', tv, S', rfl, hb2, _, hch⟩
      have zz := hb.size
      refine ⟨b, rfl, hb2.trans ?_, ?_⟩
      · constructor
        · intro hall
          obtain ⟨i, hi1, hi2⟩ := i2.mem_back (x := x) (by simp)
          exact der_toS hcm i1 (hall i hi1) x hi2
        · intro hd y hy
          obtain ⟨i, k1, k2⟩ := derS_to hU hcm i1 (fun r hr => ⟨(hok r hr).2.1, (hok r hr).2.2⟩) hd
          obtain ⟨x', k3, k4⟩ := i2.mem hy
          rw [List.mem_singleton.1 k3] at k4
          rw [ss_inj hU k4 k1]; exact k2
      · have b24 := b12.trans (g4.mono b12.size)
        have b2W := b24.trans (hb.mono b24.size)
        have b3 := b2W.trans (n2.mono b2W.size)
        exact ⟨b3.trans (hch.below b3.size (fun k hk => Nat.le_trans b2W.size (n3 k hk))), bW.trans (hch.below bW.size (fun k hk => Nat.le_trans hb.size (n3 k hk)))⟩)
  rw [← hbx]
  have hup : un ≤ 9223372036854775807 := by omega
  clear h h0 h1 B hbx e0 hp hpl hpn hul hun hrn hU hok
  go_enter Try.func28, Try.ntmps28
  go_wp2_with (first
    | (go_at_call 44; ((with_reducible refine (HC.out).mono ?_); (rintro e w1 ⟨ao, cap, rfl, ⟨k0, k1⟩, h5⟩)); have H1 := h5; clear h5)
    | (go_at_call 44; ((with_reducible refine (H1.out).mono ?_); (rintro e w2 ⟨g, o, c2, v0, v1, rfl, hc2, HCE, HN⟩))))
  have BD : Hid (Below w2.heap.size w2 w2.drew) := hid_of (Below.refl _ _).drew
  obtain ⟨y0, y1⟩ := HCE.out w2 (Below.refl _ _)
  have hc3 : (0 : Int) < (1 : Int) := by omega
  go_region_held_law (fun W => W.cell? ⟨g, o, none⟩ = some v0 ∧ W.cell? ⟨g, o + 1, none⟩ = some v1) (first | exact HCE.out _ BD.out | exact HCE.out _ B3.out | exact HCE.out _ B4.out) (first
    | (go_at_call 46; ((with_reducible refine (HN.out _ BD.out).mono ?_); (rintro ee w3 ⟨c, rfl, q1, H3⟩; have B3 := hid_of q1; clear q1)))
    | (go_at_call 52; ((with_reducible refine (H3.out).mono ?_); (rintro ee w4 ⟨b, rfl, q1, q2, q3⟩; have EB := hid_of q1; have BF := hid_of q2; have B4 := hid_of q3; clear q1 q2 q3))))
  all_goals go_wp2
  go_ret2
  exact ⟨b, rfl, EB.out, BF.out⟩
end
end Go.Proofs.Ytedohggbpmcehaa

/- disable and enable: a rule of a chase is put off, and back. Bounds on sizes alone. -/
namespace Go.Proofs.Ytedohggbpmcehaa
open Go.RowKit
set_option maxRecDepth 100000
set_option maxHeartbeats 800000

/-- The rule r put off. -/
def offR (off : Nat → Nat) (r i : Nat) : Nat := if i = r then 1 else off i
theorem offR_le {off : Nat → Nat} (h : ∀ i, off i ≤ 1) (r i : Nat) : offR off r i ≤ 1 := by unfold offR; split <;> simp [h]
section
variable (c n r k : Nat) (R : List Hrl) (off : Nat → Nat) (hs : Nat → Bool) (T : List Nat) (V : CV) (S : Nat → Prop) (w : World)
theorem lack_cell (lk : Nat → Nat) (h : CH w c n R lk hs T k V S) (hr : r < R.length) : ∃ gl lc, V.lv = .slice (some ⟨gl, 0, none⟩) R.length lc ∧ w.cell? ⟨c, 3, none⟩ = some (.slice (some ⟨gl, 0, none⟩) R.length lc) ∧ w.cell? ⟨gl, r, none⟩ = some (.int .i64 (lk r : Int)) ∧ w.frozen? ⟨gl, r, none⟩ = false ∧ R.length ≤ 9223372036854775807 := by
  obtain ⟨lo, lc, hlv⟩ := own_shape h.la
  have hlo := h.la
  rw [hlv] at hlo
  obtain ⟨gl, rfl⟩ : ∃ g, lo = some ⟨g, 0, none⟩ := by
    rcases hlo.2 with ⟨_, h6⟩ | ⟨g, _, _, h5, _⟩
    · omega
    · simp only [Value.slice.injEq] at h5; exact ⟨g, h5.1⟩
  have hlen : R.length ≤ 9223372036854775807 := by
    rcases own_shape2 hlo with ⟨h5, _⟩ | ⟨_, _, h5, _, h6, h7⟩
    · cases h5
    · omega
  have c3 := h.cell (j := 3) rfl
  rw [hlv] at c3
  have c3' : w.cell? ⟨c, 3, none⟩ = some (.slice (some ⟨gl, 0, none⟩) R.length lc) := c3
  exact ⟨gl, lc, hlv, c3', own_cell hlo (lks_get _ hr), own_free hlo r, hlen⟩
theorem lack_bound (h : CH w c n R (lackR R off (T.take k)) hs T k V S) (hr : r < R.length) (ho : off r ≤ 1) (hn : n ≤ 1000000) : lackR R off (T.take k) r ≤ 1000001 := by
  have p1 := lackF_le (prem R r) (T.take k)
  have p2 := nodup_bound n (prem R r) (h.pn r hr).1 (h.pn r hr).2
  unfold lackR
  omega
theorem lack_off (C : List Nat) (ho : off r = 0) (j : Nat) : (if j = r then lackR R off C r + 1 else lackR R off C j) = lackR R (offR off r) C j := by
  unfold lackR offR
  by_cases e : j = r
  · subst e; rw [if_pos rfl, if_pos rfl, ho]
  · rw [if_neg e, if_neg e]
theorem lack_on (C : List Nat) (ho : off r = 0) (j : Nat) : (if j = r then lackR R off C r else lackR R (offR off r) C j) = lackR R off C j := by
  unfold lackR offR
  by_cases e : j = r
  · subst e; rw [if_pos rfl]
  · rw [if_neg e, if_neg e]
theorem dis_any (h : CH w c n R (lackR R off (T.take k)) hs T k V S) (hr : r < R.length) (ho : off r = 0) (hn : n ≤ 1000000) :
    Calls Try.prog 74 #[.pointer (some ⟨c, 0, none⟩), .int .i64 r] w fun e w' => e = .returned (.tuple #[]) ∧ CH w' c n R (lackR R (offR off r) (T.take k)) hs T k V S ∧ Chg S S w w' := by
  obtain ⟨gl, lc, hlv, c3, c4, f4, hlen⟩ := lack_cell c n r k R hs T V S w _ h hr
  have hb := lack_bound c n r k R off hs T V S w h hr (by omega) hn
  obtain ⟨y, hy⟩ : ∃ y, y = lackR R off (T.take k) r := ⟨_, rfl⟩
  rw [← hy] at c4 hb
  obtain ⟨m, hm⟩ : ∃ m, m = R.length := ⟨_, rfl⟩
  rw [← hm] at c3 hr hlen
  have HF : Hid (CH (w.setCell ⟨gl, r, none⟩ (.int .i64 ((y : Int) + 1))) c n R (lackR R (offR off r) (T.take k)) hs T k V S ∧ Chg S S w (w.setCell ⟨gl, r, none⟩ (.int .i64 ((y : Int) + 1)))) := hid_of ⟨(h.setLack (i := r) (x := y + 1) hlv).conv (fun j _ => by rw [hy]; exact lack_off r R off _ ho j) (fun _ _ => rfl), chg_set (h.sl gl (by rw [hlv]; rfl))⟩
  have b1 : (r : Int) < (m : Int) := by omega
  have b2 : (0 : Int) ≤ (r : Int) := by omega
  have s1 : IntKind.i64.wrap ((y : Int) + 1) = (y : Int) + 1 := IntWalk.i64_in _ (by omega)
  clear h hlv hy hm ho hn
  go_enter Try.func74, Try.ntmps74
  go_wp2
  go_end0
  exact ⟨rfl, HF.out⟩
theorem ena_any (h : CH w c n R (lackR R (offR off r) (T.take k)) hs T k V S) (hr : r < R.length) (ho : off r = 0) (hn : n ≤ 1000000) :
    Calls Try.prog 75 #[.pointer (some ⟨c, 0, none⟩), .int .i64 r] w fun e w' => e = .returned (.tuple #[]) ∧ CH w' c n R (lackR R off (T.take k)) hs T k V S ∧ Chg S S w w' := by
  obtain ⟨gl, lc, hlv, c3, c4, f4, hlen⟩ := lack_cell c n r k R hs T V S w _ h hr
  have hb := lack_bound c n r k R (offR off r) hs T V S w h hr (by unfold offR; rw [if_pos rfl]; omega) hn
  obtain ⟨y, hy⟩ : ∃ y, y = lackR R off (T.take k) r := ⟨_, rfl⟩
  have hy2 : lackR R (offR off r) (T.take k) r = y + 1 := by rw [← lack_off r R off _ ho r, if_pos rfl, hy]
  rw [hy2] at c4 hb
  obtain ⟨m, hm⟩ : ∃ m, m = R.length := ⟨_, rfl⟩
  rw [← hm] at c3 hr hlen
  have HF : Hid (CH (w.setCell ⟨gl, r, none⟩ (.int .i64 (y : Int))) c n R (lackR R off (T.take k)) hs T k V S ∧ Chg S S w (w.setCell ⟨gl, r, none⟩ (.int .i64 (y : Int)))) := hid_of ⟨(h.setLack (i := r) (x := y) hlv).conv (fun j _ => by rw [hy]; exact lack_on r R off _ ho j) (fun _ _ => rfl), chg_set (h.sl gl (by rw [hlv]; rfl))⟩
  have b1 : (r : Int) < (m : Int) := by omega
  have b2 : (0 : Int) ≤ (r : Int) := by omega
  have c5 : w.cell? ⟨gl, r, none⟩ = some (.int .i64 ((y : Int) + 1)) := by rw [c4]; rfl
  have s1 : IntKind.i64.wrap ((y : Int) + 1 - 1) = (y : Int) := by rw [IntWalk.i64_in _ (by omega)]; omega
  clear h hlv hy hm ho hn hy2 c4
  go_enter Try.func75, Try.ntmps75
  go_wp2
  go_end0
  exact ⟨rfl, HF.out⟩
end
end Go.Proofs.Ytedohggbpmcehaa

/- removeRules: the rules that the rules left don't entail. Bounds on sizes alone. -/
namespace Go.Proofs.Ytedohggbpmcehaa
open Go.RowKit
set_option maxRecDepth 100000
set_option maxHeartbeats 1600000

/-- append of pairs onto a row of the call's own: what else stays. -/
theorem wpList_pr2 {P : Program} {S E : TypeId} {z : Value} {eb : Nat} (T : Elem2 P S E z eb) {ops : Array Oper} {rest : List Oper} {o : Oper} {a : Act} {w : World} {Q : Exit → Act → World → Prop} (hgd : o.guard = none) (s x : Operand)
    (ho : o.op = .call { callee := .builtin .append, args := #[s, x], argTypes := #[S, S] })
    {B : Nat} {v : Value} {l : List PV} (hv : a.eval s = v) (H : w.ownsRow B E 2 v l.length (prs l)) (hB : B ≤ w.heap.size) {vx : Value} {m : List PV} (hx : a.eval x = vx) (L : PRd w vx m) (h1 : ∀ u ∈ prs m, u.oneCell' = true) (hl : (l.length + m.length) * eb ≤ 140737488355328) (hl2 : l.length + m.length ≤ 140737488355328)
    (h : ∀ (ao : Option Addr) (n cap : Nat) (w' : World), n = l.length + m.length → w'.ownsRow B E 2 (.slice ao n cap) n (prs l ++ prs m) → w.grownBy w' v.ownBlock → ((Value.slice ao n cap).ownBlock = v.ownBlock ∨ (Value.slice ao n cap).ownBlock = some w.heap.size) → wpList P ops Q rest (a.put o.dst (.slice ao n cap)) w') :
    wpList P ops Q (o :: rest) a w := by
  obtain ⟨i0, hi, hz0, hz1, hz2⟩ := info_parts T.info
  refine wpList_append_src _ hgd s x S S ho B E i0 z 2 eb T.und hi hz0 hz1 hz2 T.two (by decide) v l.length (prs l) hv H vx m.length (prs m) hx (L.src T h1) (by unfold maxLen; omega) (by omega) hB ?_
  intro v2 w2 hown hg _ hf
  obtain ⟨ao, cap, rfl⟩ := own_shapeP hown
  exact h ao _ cap w2 rfl hown hg hf

/-- The chase and the rules that are left, during the loop. -/
def RmI (c n : Nat) (R : List Hrl) (w6 w8 : World) (off : Nat → Nat) (oo : Option Addr) (m oc : Nat) (L : List PV) (wz : World) : Prop :=
  ∃ (T : List Nat) (kk : Nat) (V : CV) (S : Nat → Prop), CH wz c n R (lackR R off (T.take kk)) (memB T) T kk V S ∧ kk ≤ T.length ∧ Below w6.heap.size w6 wz ∧ (∀ b, S b → w6.heap.size ≤ b) ∧
    (∀ (i : Nat) (v : Value), V.ar[i]? = some v → ∀ g, v.ownBlock = some g → g < w8.heap.size) ∧ w8.heap.size ≤ wz.heap.size ∧ wz.ownsRow w8.heap.size 90 2 (.slice oo m oc) L.length (prs L) ∧ (∀ g, (Value.slice oo m oc).ownBlock = some g → ¬ S g)
section
variable {c n : Nat} {R : List Hrl} {w6 w8 wz w' : World} {off off' : Nat → Nat} {oo : Option Addr} {m oc : Nat} {L : List PV}
theorem RmI.alloc (h : RmI c n R w6 w8 off oo m oc L wz) (o : Obj) : RmI c n R w6 w8 off oo m oc L (wz.alloc o) := by
  obtain ⟨T, kk, V, S, q1, q2, q3, q4, q5, q6, q7, q8⟩ := h
  have b := bel_alloc wz o
  exact ⟨T, kk, V, S, q1.at b, q2, q3.trans (b.mono q3.size), q4, q5, Nat.le_trans q6 b.size, q7.alloc o, q8⟩
/-- A step of the chase. -/
theorem rmi_chg {T' : List Nat} {kk' : Nat} {V : CV} {tv : Value} {S S' : Nat → Prop} (q3 : Below w6.heap.size w6 wz) (q4 : ∀ b, S b → w6.heap.size ≤ b) (q5 : ∀ (i : Nat) (v : Value), V.ar[i]? = some v → ∀ g, v.ownBlock = some g → g < w8.heap.size) (q6 : w8.heap.size ≤ wz.heap.size) (q7 : wz.ownsRow w8.heap.size 90 2 (.slice oo m oc) L.length (prs L)) (q8 : ∀ g, (Value.slice oo m oc).ownBlock = some g → ¬ S g)
    (hc : CH w' c n R (lackR R off' (T'.take kk')) (memB T') T' kk' { V with tv := tv } S') (hk : kk' ≤ T'.length) (hg : Chg S S' wz w') : RmI c n R w6 w8 off' oo m oc L w' := by
  refine ⟨T', kk', _, S', hc, hk, q3.trans (hg.below q3.size q4), fun b hb => ?_, q5, Nat.le_trans q6 hg.kept.size, own_same2 q7 fun k hk => hg.kept.block k (q7.lt k hk).2 (q8 k hk), fun g hg1 hs => ?_⟩
  · rcases hg.sub b hb with h1 | h1
    · exact q4 b h1
    · exact Nat.le_trans q3.size h1
  · rcases hg.sub g hs with h1 | h1
    · exact q8 g hg1 h1
    · have := (q7.lt g hg1).2; omega
theorem rmi_own (h : RmI c n R w6 w8 off oo m oc L wz) (o : Obj) : (wz.alloc o).ownsRow w8.heap.size 90 2 (.slice oo m oc) L.length (prs L) := by
  obtain ⟨_, _, _, _, _, _, _, _, _, _, q7, _⟩ := h
  exact q7.alloc o
theorem rmi_size (h : RmI c n R w6 w8 off oo m oc L wz) (o : Obj) : w8.heap.size ≤ (wz.alloc o).heap.size := by
  obtain ⟨_, _, _, _, _, _, _, _, _, q6, _, _⟩ := h
  exact Nat.le_trans q6 (by simp)
theorem RmI.app {ao : Option Addr} {n2 cap2 : Nat} {t : PV} {o : Obj} (h68 : w6.heap.size ≤ w8.heap.size) (h : RmI c n R w6 w8 off oo m oc L wz) (hn2 : n2 = L.length + 1) (hown : w'.ownsRow w8.heap.size 90 2 (.slice ao n2 cap2) n2 (prs L ++ prs [t])) (hg : (wz.alloc o).grownBy w' (Value.slice oo m oc).ownBlock)
    (hf : (Value.slice ao n2 cap2).ownBlock = (Value.slice oo m oc).ownBlock ∨ (Value.slice ao n2 cap2).ownBlock = some (wz.alloc o).heap.size) : RmI c n R w6 w8 off ao n2 cap2 (L ++ [t]) w' := by
  obtain ⟨T, kk, V, S, q1, q2, q3, q4, q5, q6, q7, q8⟩ := h
  have b := bel_alloc wz o
  have q7' := q7.alloc o
  refine ⟨T, kk, V, S, (q1.at b).chg (F := fun g => (Value.slice oo m oc).ownBlock = some g) (F' := fun g => (Value.slice oo m oc).ownBlock = some g) ⟨⟨hg.os, hg.tape, hg.output, hg.size, fun k hk hn => hg.block k hk (fun e => hn e.symm)⟩, fun k h => .inl h⟩ (fun g hs hF => q8 g hF hs) (fun i v hv g hg1 hF => by have := q5 i v hv g hg1; have := (q7.lt g hF).1; omega), q2,
    (q3.trans (b.mono q3.size)).grown hg (Nat.le_trans q3.size b.size) (fun k hk => ?_), q4, q5, Nat.le_trans q6 (Nat.le_trans b.size hg.size), ?_, fun g hg1 hs => ?_⟩
  · have := (q7.lt k hk).1; omega
  · rw [List.length_append, List.length_singleton, ← hn2, prs_append]; exact hown
  · rcases hf with hf | hf
    · exact q8 g (hf.symm.trans hg1) hs
    · have := q1.sz g hs
      rw [hg1] at hf
      simp at hf
      omega
/-- Do the rules that are on entail a rule. -/
noncomputable def entD (R : List Hrl) (off : Nat → Nat) (z : Hrl) : Bool := @decide (∀ x, x ∈ z.2 → Der (On R off) (fun x => x ∈ z.1) x) (Classical.propDecidable _)
theorem rm_round {B0 : Nat} {ao : Option Addr} {m9 cap : Nat} (hn : n ≤ 1000000) (hco : CoR B0 w6 (.slice ao m9 cap) R) (hR : ∀ z ∈ R, (∀ y ∈ z.1, y < n) ∧ ∀ y ∈ z.2, y < n) (hoff : ∀ i, off i ≤ 1) {k : Nat} (h0 : off k = 0) (h : RmI c n R w6 w8 off oo m oc L wz) (hk : k < m9) :
    ∃ g o a1 n1 d1 a2 n2 d2 z, ao = some ⟨g, o, none⟩ ∧ R[k]? = some z ∧ (w6.ownsRow B0 3 1 (.slice a1 n1 d1) z.1.length (ints z.1) ∧ w6.ownsRow B0 3 1 (.slice a2 n2 d2) z.2.length (ints z.2)) ∧ wz.cell? ⟨g, o + k * 2, none⟩ = some (.slice a1 n1 d1) ∧ wz.cell? ⟨g, o + k * 2 + 1, none⟩ = some (.slice a2 n2 d2) ∧
      Hid (Calls Try.prog 74 #[.pointer (some ⟨c, 0, none⟩), .int .i64 k] (wz.alloc (.cells #[.slice a1 n1 d1, .slice a2 n2 d2] 90)) fun e w2 => e = .returned (.tuple #[]) ∧ (w2.cell? ⟨wz.heap.size, 0, none⟩ = some (.slice a1 n1 d1) ∧ w2.cell? ⟨wz.heap.size, 1, none⟩ = some (.slice a2 n2 d2)) ∧
        Hid (Calls Try.prog 52 #[.pointer (some ⟨c, 0, none⟩), .agg #[.slice a1 n1 d1, .slice a2 n2 d2]] w2 fun e w3 => e = .returned (.bool (entD R (offR off k) z)) ∧ RmI c n R w6 w8 (offR off k) oo m oc L w3 ∧
          Hid (Calls Try.prog 75 #[.pointer (some ⟨c, 0, none⟩), .int .i64 k] w3 fun e w4 => e = .returned (.tuple #[]) ∧ RmI c n R w6 w8 off oo m oc L w4 ∧ (w4.cell? ⟨wz.heap.size, 0, none⟩ = some (.slice a1 n1 d1) ∧ w4.cell? ⟨wz.heap.size, 1, none⟩ = some (.slice a2 n2 d2))))) := by
  obtain ⟨l, p1, p2⟩ := hco
  have hcut := p1.cut
  have hlR := p2.1
  have hB3 : Below w6.heap.size w6 wz := by obtain ⟨_, _, _, _, _, _, q3, _⟩ := h; exact q3
  obtain ⟨t, ht⟩ : ∃ t, l[k]? = some t := ⟨_, List.getElem?_eq_getElem (by omega)⟩
  obtain ⟨z, hz⟩ : ∃ z, R[k]? = some z := ⟨_, List.getElem?_eq_getElem (by omega)⟩
  obtain ⟨g, o, e, c0, c1⟩ := (p1.at hB3).get ht
  obtain ⟨o1, o2⟩ := p2.2 k t z ht hz
  obtain ⟨t1, t2⟩ := t
  obtain ⟨a1, d1, rfl⟩ : ∃ a d, t1 = .slice a z.1.length d := own_shape o1
  obtain ⟨a2, d2, rfl⟩ : ∃ a d, t2 = .slice a z.2.length d := own_shape o2
  obtain ⟨T, kk, V, S, q1w, q2, q3w, q4, q5, q6w, q7w, q8⟩ := h
  have bz := bel_alloc wz (.cells #[.slice a1 z.1.length d1, .slice a2 z.2.length d2] 90)
  have q1 := q1w.at bz
  have q3 := q3w.trans (bz.mono q3w.size)
  have q6 := Nat.le_trans q6w bz.size
  have q7 := q7w.alloc (.cells #[.slice a1 z.1.length d1, .slice a2 z.2.length d2] 90)
  have e0 := heap_alloc_new wz (.cells #[.slice a1 z.1.length d1, .slice a2 z.2.length d2] 90)
  have hSz : ¬ S wz.heap.size := fun hs => by have := q1w.sz _ hs; omega
  refine ⟨g, o, a1, _, d1, a2, _, d2, z, e, hz, ⟨o1, o2⟩, c0, c1, hid_of ?_⟩
  refine (dis_any c n k kk R off (memB T) T V S _ q1 (by omega) h0 hn).mono ?_
  rintro e2 w2 ⟨rfl, r1, r2⟩
  have e1 := (r2.kept.block wz.heap.size (by simp) hSz).trans e0
  refine ⟨rfl, ⟨blk_cell (cs := [.slice a1 z.1.length d1, .slice a2 z.2.length d2]) e1 (j := 0) rfl, blk_cell (cs := [.slice a1 z.1.length d1, .slice a2 z.2.length d2]) e1 (j := 1) rfl⟩, hid_of ?_⟩
  have bb : Below w6.heap.size w6 w2 := q3.trans (r2.below q3.size q4)
  have o1' := own_same o1 fun k hk => bb.block k (own_lt o1 hk)
  have o2' := own_same o2 fun k hk => bb.block k (own_lt o2 hk)
  have hzm := List.mem_of_getElem? hz
  refine (ent_any c n kk R (offR off k) T V S z.1 z.2 (.slice a1 z.1.length d1) (.slice a2 z.2.length d2) w2 r1 q2 (own_rd o1') (own_rd o2') (fun g hg => ⟨own_lt o1' hg, fun hs => by have := own_lt o1 hg; have := q4 g hs; omega⟩) (fun g hg => ⟨own_lt o2' hg, fun hs => by have := own_lt o2 hg; have := q4 g hs; omega⟩)
    (hR z hzm).1 (hR z hzm).2 hn (offR_le hoff k)).mono ?_
  rintro e3 w3 ⟨b, T', tv, S', rfl, hb2, hch, hcg⟩
  have hbe : b = entD R (offR off k) z := by
    unfold entD
    rw [Bool.eq_iff_iff, hb2]
    exact (@decide_eq_true_iff _ (Classical.propDecidable _)).symm
  have e3 := (hcg.kept.block wz.heap.size (lt_of_block e1) hSz).trans e1
  have r7 := own_same2 q7 fun k hk => r2.kept.block k (q7.lt k hk).2 (q8 k hk)
  have hR3 := rmi_chg (oo := oo) (m := m) (oc := oc) (w8 := w8) (L := L) (V := V) bb q4 q5 (Nat.le_trans q6 r2.kept.size) r7 q8 hch (Nat.le_refl _) hcg
  refine ⟨by rw [hbe], hR3, hid_of ?_⟩
  refine (ena_any c n k T'.length R off (memB T') T' _ S' w3 hch (by omega) h0 hn).mono ?_
  rintro e4 w4 ⟨rfl, s1, s2⟩
  have hS' : ¬ S' wz.heap.size := fun hs => by
    rcases hcg.sub _ hs with h1 | h1
    · exact hSz h1
    · have := lt_of_block e1; omega
  have e4 := (s2.kept.block wz.heap.size (lt_of_block e3) hS').trans e3
  have v3 := bb.trans (hcg.below bb.size q4)
  have v4 : ∀ b, S' b → w6.heap.size ≤ b := fun b hb => by
    rcases hcg.sub b hb with h1 | h1
    · exact q4 b h1
    · exact Nat.le_trans bb.size h1
  have v7 := own_same2 r7 fun k hk => hcg.kept.block k (r7.lt k hk).2 (q8 k hk)
  have v8 : ∀ g, (Value.slice oo m oc).ownBlock = some g → ¬ S' g := fun g hg1 hs => by
    rcases hcg.sub g hs with h1 | h1
    · exact q8 g hg1 h1
    · have := (r7.lt g hg1).2; omega
  refine ⟨rfl, rmi_chg (w8 := w8) (V := { V with tv := tv }) (tv := tv) v3 v4 q5 (Nat.le_trans (Nat.le_trans q6 r2.kept.size) hcg.kept.size) v7 v8 s1 (Nat.le_refl _) s2, blk_cell (cs := [.slice a1 z.1.length d1, .slice a2 z.2.length d2]) e4 (j := 0) rfl, blk_cell (cs := [.slice a1 z.1.length d1, .slice a2 z.2.length d2]) e4 (j := 1) rfl⟩
end

/-- The mask of the rules that have gone, and the rules that are left, behind the first i. -/
noncomputable def rmF (R : List Hrl) : Nat → (Nat → Nat) × List Hrl
  | 0 => (off0, [])
  | i + 1 => match R[i]? with
    | none => rmF R i
    | some z => if entD R (offR (rmF R i).1 i) z then (offR (rmF R i).1 i, (rmF R i).2) else ((rmF R i).1, (rmF R i).2 ++ [z])
theorem rmF_off (R : List Hrl) : ∀ i j, i ≤ j → (rmF R i).1 j = 0
  | 0, j, _ => rfl
  | i + 1, j, h => by
    have ih := rmF_off R i j (by omega)
    simp only [rmF]
    split
    · exact ih
    · split
      · show offR _ i j = 0
        unfold offR; rw [if_neg (by omega)]; exact ih
      · exact ih
theorem rmF_le (R : List Hrl) : ∀ i j, (rmF R i).1 j ≤ 1
  | 0, j => by show off0 j ≤ 1; unfold off0; omega
  | i + 1, j => by
    have ih := rmF_le R i
    simp only [rmF]
    split
    · exact ih j
    · split
      · exact offR_le ih i j
      · exact ih j
theorem rmF_yes {R : List Hrl} {i : Nat} {z : Hrl} (h : R[i]? = some z) (hb : entD R (offR (rmF R i).1 i) z = true) : rmF R (i + 1) = (offR (rmF R i).1 i, (rmF R i).2) := by simp only [rmF, h]; rw [if_pos hb]
theorem rmF_no {R : List Hrl} {i : Nat} {z : Hrl} (h : R[i]? = some z) (hb : entD R (offR (rmF R i).1 i) z = false) : rmF R (i + 1) = ((rmF R i).1, (rmF R i).2 ++ [z]) := by simp only [rmF, h]; rw [if_neg (by rw [hb]; simp)]
/-- Pairs of slices and the rules in numbers that they read as, in the world of the list. -/
structure CoP (B0 : Nat) (w6 : World) (L : List PV) (Q : List Hrl) : Prop where
  len : L.length = Q.length
  at_ : ∀ (i : Nat) (t : PV) (q : Hrl), L[i]? = some t → Q[i]? = some q → w6.ownsRow B0 3 1 t.1 q.1.length (ints q.1) ∧ w6.ownsRow B0 3 1 t.2 q.2.length (ints q.2)
theorem CoP.snoc {B0 : Nat} {w6 : World} {L : List PV} {Q : List Hrl} (h : CoP B0 w6 L Q) {t : PV} {q : Hrl} (h1 : w6.ownsRow B0 3 1 t.1 q.1.length (ints q.1)) (h2 : w6.ownsRow B0 3 1 t.2 q.2.length (ints q.2)) : CoP B0 w6 (L ++ [t]) (Q ++ [q]) := by
  refine ⟨by simp [h.len], fun i t' r' ht hr => ?_⟩
  by_cases e : i < L.length
  · rw [List.getElem?_append_left e] at ht
    rw [List.getElem?_append_left (by rw [← h.len]; exact e)] at hr
    exact h.at_ i t' r' ht hr
  · rw [List.getElem?_append_right (by omega)] at ht
    rw [List.getElem?_append_right (by rw [← h.len]; omega)] at hr
    have hi : i = L.length := by have := (List.getElem?_eq_some_iff.1 ht).1; simp at this; omega
    rw [hi, Nat.sub_self] at ht
    rw [hi, h.len, Nat.sub_self] at hr
    simp only [List.getElem?_cons_zero, Option.some.injEq] at ht hr
    rw [← ht, ← hr]; exact ⟨h1, h2⟩

theorem remR_any (B0 n : Nat) (R : List Hrl) (ao : Option Addr) (m9 cap : Nat) (w : World) (hco : CoR B0 w (.slice ao m9 cap) R) (hok : RulesOk n R) (hR : ∀ z ∈ R, (∀ y ∈ z.1, y < n) ∧ ∀ y ∈ z.2, y < n) (hn : n ≤ 1000000) (hm : m9 ≤ 1000000) :
    Calls Try.prog 57 #[.int .i64 n, .slice ao m9 cap] w fun e w' => ∃ (oo : Option Addr) (m oc : Nat) (L : List PV), e = .returned (.slice oo m oc) ∧ m = L.length ∧ CoP B0 w L (rmF R R.length).2 ∧ w'.ownsRow w.heap.size 90 2 (.slice oo m oc) L.length (prs L) ∧ Below w.heap.size w w' := by
  have hmR : m9 = R.length := by
    obtain ⟨l, p1, p2⟩ := hco
    have := p1.cut
    rw [this.1, p2.1]
  have hm9 : m9 ≤ 9223372036854775807 := by omega
  have HNC : Hid (Calls Try.prog 46 #[.int .i64 n, .slice ao m9 cap] w fun e w' => ∃ c, e = .returned (.pointer (some ⟨c, 0, none⟩)) ∧ RmI c n R w w' off0 none 0 0 [] w' ∧ w.heap.size ≤ w'.heap.size) := hid_of ((new_any B0 n R ao m9 cap w hco hok hn hm).mono (by
    rintro e w3 ⟨c, rfl, _, V, S, n1, n2, n3, _⟩
    exact ⟨c, rfl, ⟨[], 0, V, S, n1, Nat.le_refl _, n2, n3, fun i v hv g hg => ((n1.ai i v hv).2 g hg).1, Nat.le_refl _, World.ownsRow_nil _ _ _ _, fun g hg => (by cases hg)⟩, n2.size⟩))
  have HRD : Hid (∀ c w8 wz off oo m oc L k, RmI c n R w w8 off oo m oc L wz → (∀ i, off i ≤ 1) → off k = 0 → k < m9 → _) := hid_of (fun c w8 wz off oo m oc L k h h1 h2 hk => rm_round (k := k) hn hco hR h1 h2 h hk)
  have HMR := hid_of hmR
  clear hco hok hR hmR
  go_enter Try.func57, Try.ntmps57
  go_wp2_with (go_at_call 46; ((with_reducible refine (HNC.out).mono ?_); (rintro e w8 ⟨c, rfl, q1, q2⟩)); have R8 := hid_of q1; have Z8 := hid_of q2; clear q1 q2)
  go_loopw [6, 7, 8, 14] (fun ov jv bv iv wz => ∃ (k : Nat) (oo : Option Addr) (m oc : Nat) (L : List PV) (v1 v2 : Value), ov = .slice oo m oc ∧ jv = v1 ∧ bv = v2 ∧ k ≤ m9 ∧ m ≤ k ∧ iv = .int .i64 k ∧ Hid (L.length = m) ∧ Hid (RmI c n R w w8 (rmF R k).1 oo m oc L wz) ∧ Hid (CoP B0 w L (rmF R k).2)) (fun _ _ _ iv _ => m9 - (intOf iv).toNat)
  case atStart => exact ⟨0, none, 0, 0, [], _, _, rfl, rfl, rfl, Nat.zero_le _, Nat.le_refl _, rfl, hid_of rfl, R8, hid_of ⟨rfl, fun i t q ht => (by simp at ht)⟩⟩
  case round =>
    obtain ⟨k, oo, m, oc, L, v1, v2, rfl, rfl, rfl, hk, hmk, rfl, hll, hri, hcp⟩ := hrel
    by_cases hlt : k < m9
    · have hd : decide (k < m9) = true := by simp; omega
      obtain ⟨g, o, a1, n1, d1, a2, n2, d2, z, rfl, hz, hrw, c0, c1, HD⟩ := HRD.out c w8 _ _ oo m oc L k hri.out (rmF_le R k) (rmF_off R k k (Nat.le_refl _)) hlt
      have HZ := hid_of hz
      have HRW := hid_of hrw
      obtain ⟨b, hb⟩ : ∃ b, b = entD R (offR (rmF R k).1 k) z := ⟨_, rfl⟩
      rw [← hb] at HD
      have HB := hid_of hb
      clear hz hrw hb
      cases b
      · have HNX := hid_of (rmF_no HZ.out HB.out.symm)
        go_wp2_with (first
          | (go_at_call 74; ((with_reducible refine (HD.out).mono ?_); (rintro ee w2 ⟨rfl, ⟨k0, k1⟩, H2⟩)))
          | (go_at_call 52; ((with_reducible refine (H2.out).mono ?_); (rintro ee w3 ⟨rfl, q1, H3⟩)); have R3 := hid_of q1; clear q1)
          | (go_at_call 75; ((with_reducible refine (H3.out).mono ?_); (rintro ee w4 ⟨rfl, q1, ⟨k2, k3⟩⟩)); have R4 := hid_of q1; clear q1)
          | (at_builtin; (refine wpList_pr2 ruleE rfl (.tmp 29) (.tmp 31) rfl (v := .slice oo m oc) (l := L) rfl (rmi_own R4.out _) (rmi_size R4.out _) (vx := .slice (some ⟨w4.heap.size, 0, none⟩) 1 1) (m := [(.slice a1 n1 d1, .slice a2 n2 d2)]) rfl prd_new (by intro u hu; simp [prs] at hu; rcases hu with rfl | rfl <;> rfl) (by rw [hll.out]; simp only [List.length_singleton]; omega) (by rw [hll.out]; simp only [List.length_singleton]; omega) ?_); intro ao2 n3 cap2 w5 e1 e2 e3 e4; have HN3 : Hid (n3 = m + 1) := hid_of (by rw [hll.out] at e1; simpa using e1); have R5 := hid_of (R4.out.app Z8.out e1 e2 e3 e4); clear e1 e2 e3 e4))
        go_roundw
        case rel => exact ⟨k + 1, ao2, n3, cap2, L ++ [(.slice a1 n1 d1, .slice a2 n2 d2)], _, _, rfl, rfl, rfl, by omega, by have := HN3.out; omega, by go_num, hid_of (by rw [List.length_append, hll.out, HN3.out]; rfl), hid_of (by rw [HNX.out]; exact R5.out), hid_of (by rw [HNX.out]; exact hcp.out.snoc HRW.out.1 HRW.out.2)⟩
        case measure => simp [intOf]; omega
      · have HNX := hid_of (rmF_yes HZ.out HB.out.symm)
        go_wp2_with (first
          | (go_at_call 74; ((with_reducible refine (HD.out).mono ?_); (rintro ee w2 ⟨rfl, ⟨k0, k1⟩, H2⟩)))
          | (go_at_call 52; ((with_reducible refine (H2.out).mono ?_); (rintro ee w3 ⟨rfl, q1, H3⟩)); have R3 := hid_of q1; clear q1))
        go_roundw
        case rel => exact ⟨k + 1, oo, m, oc, L, _, _, rfl, rfl, rfl, by omega, by omega, by go_num, hll, hid_of (by rw [HNX.out]; exact R3.out), hid_of (by rw [HNX.out]; exact hcp.out)⟩
        case measure => simp [intOf]; omega
    · have hd : decide (k < m9) = false := by simp; omega
      have HF : Hid (CoP B0 w L (rmF R R.length).2) := hid_of (by
        have e : k = R.length := by have := HMR.out; omega
        rw [← e]; exact hcp.out)
      go_wp2
      go_ret
      obtain ⟨_, _, _, _, _, _, q3, _, _, _, q7, _⟩ := hri.out
      refine ⟨oo, m, oc, L, rfl, hll.out.symm, HF.out, ?_, q3⟩
      obtain ⟨y1, y2⟩ := q7
      refine ⟨y1, ?_⟩
      rcases y2 with y2 | ⟨g, cap3, cur, hv, hbb, hg, r⟩
      · exact .inl y2
      · exact .inr ⟨g, cap3, cur, hv, Nat.le_trans Z8.out hbb, hg, r⟩
end Go.Proofs.Ytedohggbpmcehaa

/- without: a list of numbers without one element. Bounds on sizes alone. -/
namespace Go.Proofs.Ytedohggbpmcehaa
open Go.RowKit
set_option maxRecDepth 100000
set_option maxHeartbeats 1600000

theorem upto_any (g o len cap s : Nat) (hs : s ≤ cap) : ∀ wx, (Instr.slice 56 (.slice (some ⟨g, o, none⟩) len cap) none (some (.int .i64 (s : Int))) none).run Try.prog wx = .ok (.slice (some ⟨g, o, none⟩) s cap) wx := fun wx => by
  obtain ⟨i0, hi, hz0, hz1, hz2⟩ := info_parts intsE.info
  have he : Try.prog.elem 56 = 3 := by kernel_rfl
  have ht : Try.prog.underlying 56 = some (.slice (Try.prog.elem 56)) := by rw [he]; exact Try.underlying56
  have hsz : (sizeOf (Try.prog.elem 56)).run Try.prog wx = .ok 1 wx := by
    rw [he]
    simp [sizeOf, typeInfo, hi, hz1]
  rw [run_slice_h (t := 56) (ht := ht) (h0 := by omega) (h2 := by omega), hsz]
  simp [Result.andThen, sliced, Addr.add]
theorem fro_any (g o len cap s : Nat) (hs : s ≤ len) : ∃ A, (∀ wx, (Instr.slice 56 (.slice (some ⟨g, o, none⟩) len cap) (some (.int .i64 (s : Int))) none none).run Try.prog wx = .ok (.slice A (len - s) (cap - s)) wx) ∧ (s < len → len ≤ cap → A = some ⟨g, o + s, none⟩) := by
  obtain ⟨i0, hi, hz0, hz1, hz2⟩ := info_parts intsE.info
  have he : Try.prog.elem 56 = 3 := by kernel_rfl
  have ht : Try.prog.underlying 56 = some (.slice (Try.prog.elem 56)) := by rw [he]; exact Try.underlying56
  have hsz : ∀ wx, (sizeOf (Try.prog.elem 56)).run Try.prog wx = .ok 1 wx := fun wx => by
    rw [he]
    simp [sizeOf, typeInfo, hi, hz1]
  refine ⟨if cap = s then some ⟨g, o, none⟩ else (some (⟨g, o, none⟩ : Addr)).map (·.add (s * 1)), fun wx => ?_, fun hlt hc => ?_⟩
  · rw [run_slice_l (t := 56) (ht := ht) (h0 := by omega) (h1 := by omega), hsz]
    rfl
  · rw [if_neg (by omega), Option.map_some, Addr.add_mid, Nat.mul_one]
theorem fill_two {α : Type} (z : α) (m j : Nat) (A B : List α) (hA : A.length = j) (hB : j + B.length = m) : splice (splice (List.replicate m z) 0 A) j B = A ++ B := by
  unfold splice
  simp [hA]
  omega
theorem wo_split {l : List Nat} {j : Nat} (hj : j < l.length) : l.eraseIdx j = l.take j ++ l.drop (j + 1) := List.eraseIdx_eq_take_drop_succ ..
theorem sizeIntW : (Try.prog.info? 3).map (·.size) = some 1 := by kernel_rfl

theorem wo_any (ao : Option Addr) (n cap : Nat) (l : List Nat) (j : Nat) (w : World) (R : Rd w (.slice ao n cap) (ints l)) (hj : j < n) (hn : n ≤ 1000000) :
    Calls Try.prog 76 #[.slice ao n cap, .int .i64 j] w fun e w' => ∃ bo bc, e = .returned (.slice bo (n - 1) bc) ∧ Ow 3 w.heap.size w w' (.slice bo (n - 1) bc) (ints (l.eraseIdx j)) := by
  obtain ⟨_, _, e, h2, h3, h4⟩ := R
  simp only [Value.slice.injEq] at e
  obtain ⟨rfl, hnl, rfl⟩ := e
  obtain ⟨g, o, rfl, hg, hc⟩ := h4 (by omega)
  rw [ints_length] at hnl h2
  obtain ⟨i0, hi, hz0, hz1, hz2⟩ := info_parts intsE.info
  obtain ⟨m, hm⟩ : ∃ m, m + 1 = n := ⟨n - 1, by omega⟩
  have s1 : IntKind.i64.wrap ((n : Int) - 1) = (m : Int) := by rw [IntWalk.i64_in _ (by omega)]; omega
  have U1 := upto_any g o n cap j (by omega)
  have hca : n ≤ cap := by omega
  rw [show n - 1 = m by omega]
  obtain ⟨A1, F1, G1⟩ := fro_any w.heap.size 0 m m j (by omega)
  obtain ⟨A2, F2, G2⟩ := fro_any g o n cap (j + 1) (by omega)
  have s2 : IntKind.i64.wrap ((j : Int) + 1) = (j : Int) + 1 := IntWalk.i64_in _ (by omega)
  have ec : ((j + 1 : Nat) : Int) = (j : Int) + 1 := by omega
  rw [ec] at F2
  clear ec
  have L1 : (ints (l.take j)).length = j := by rw [ints_length, List.length_take]; omega
  have L2 : (ints (l.drop (j + 1))).length = m - j := by rw [ints_length, List.length_drop]; omega
  have HC1 : Hid (∀ W, Below w.heap.size w W → ∀ i v, (ints (l.take j))[i]? = some v → W.cell? ((⟨g, o, none⟩ : Addr).add i) = some v) := hid_of (fun W hW i v hv => by
    have hi := (List.getElem?_eq_some_iff.1 hv).1
    rw [L1] at hi
    rw [Addr.add_mid]
    rw [← ints_take, List.getElem?_take, if_pos hi] at hv
    exact (hW.cell (p := ⟨g, o + i, none⟩) hg).trans (hc i v hv))
  have HC2 : Hid (∀ W, Below w.heap.size w W → ∀ i v, (ints (l.drop (j + 1)))[i]? = some v → W.cell? ((⟨g, o + (j + 1), none⟩ : Addr).add i) = some v) := hid_of (fun W hW i v hv => by
    rw [Addr.add_mid]
    have hv2 : (ints l)[j + 1 + i]? = some v := by
      rw [ints, List.getElem?_map] at hv ⊢
      rw [List.getElem?_drop] at hv
      exact hv
    have := hc (j + 1 + i) v hv2
    rw [show o + (j + 1) + i = o + (j + 1 + i) by omega]
    exact (hW.cell (p := ⟨g, o + (j + 1 + i), none⟩) hg).trans this)
  have HFT : Hid (splice (splice (List.replicate m (Value.int .i64 0)) 0 (ints (l.take j))) j (ints (l.drop (j + 1))) = ints (l.eraseIdx j)) := hid_of (by
    rw [fill_two _ _ _ _ _ L1 (by rw [L2]; omega), wo_split (by omega), ints_append])
  obtain ⟨q, hq⟩ : ∃ q, q = m - j := ⟨_, rfl⟩
  have hq2 : n - (j + 1) = q := by omega
  obtain ⟨c2, hc2⟩ : ∃ c2, c2 = cap - (j + 1) := ⟨_, rfl⟩
  have hqm : q + j ≤ m := by omega
  have hqm2 : m ≤ q + j := by omega
  rw [← hq] at F1 L2
  rw [hq2, ← hc2] at F2
  clear hq hq2 hc2
  have HL1 := hid_of L1
  have HL2 := hid_of L2
  have hjm : j ≤ m := by omega
  have HG1 := hid_of G1
  have HG2 := hid_of G2
  have hjn : j + 1 ≤ n := by omega
  have b0 : (0 : Int) ≤ (j : Int) := by omega
  have HLE : Hid ((ints (l.eraseIdx j)).length = m) := hid_of (by rw [← HFT.out, fill_two _ _ _ _ _ L1 (by rw [L2]; omega), List.length_append, L1, L2]; omega)
  have hm1 : n ≤ m + 1 := by omega
  have hm2 : m + 1 ≤ n := by omega
  clear h4 hc L1 L2 G1 G2 hnl h2 hm
  go_enter Try.func76, Try.ntmps76
  go_wp2_with (first
    | (at_make; (refine wpList_make_full _ rfl _ _ 56 rfl w.heap.size 3 i0 (.int .i64 0) 1 Try.underlying56 hi hz0 hz1 .i64 .i64 m m m rfl rfl rfl rfl (by rw [hz2]; omega) (by unfold maxLen; omega) (Nat.le_refl _) ?_); intro w2 hown hgrow; have HB5 : Hid (Below w.heap.size w w2) := hid_of ((Below.refl _ _).grown hgrow (Nat.le_refl _) (fun k h => by cases h)); have HR5 : Hid (w2.heap[w.heap.size]? = some (.cells (List.replicate m (Value.int .i64 0)).toArray 3 (0, 0))) := hid_of (made_row (z := .int .i64 0) hown (by rw [Nat.mul_one]; rfl)); clear hown hgrow)
    | (refine wpList_copy_splice rfl (.tmp 10) (.tmp 13) 56 56 rfl 3 Try.underlying56 sizeIntW (some ⟨w.heap.size, 0, none⟩) (some ⟨g, o, none⟩) m m j cap rfl rfl w.heap.size 0 (List.replicate m (Value.int .i64 0)) 3 HR5.out (ints (l.take j)) (by rw [HL1.out]; exact (Nat.min_eq_left hjm).symm) (fun _ => ⟨rfl, _, rfl, HC1.out _ HB5.out⟩) (by rw [HL1.out]; simp; omega) (ints_one _) w.heap.size w HB5.out (Nat.le_refl _) ?_; intro w3 h6 h7; have C3 := h6; have B3 := hid_of h7; clear h6 h7))
  go_region_law (refine step_copy_splice (by rfl) (.tmp 17) (.tmp 21) 56 56 (by rfl) 3 Try.underlying56 sizeIntW A1 A2 q q q c2 (by kernel_rfl) (by kernel_rfl) w.heap.size j (splice (List.replicate m (Value.int .i64 0)) 0 (ints (l.take j))) 3 C3.out (ints (l.drop (j + 1))) (by rw [HL2.out]; exact (Nat.min_self _).symm) (fun h0 => by rw [HL2.out] at h0; exact ⟨by rw [HG1.out (by omega) (Nat.le_refl _), Nat.zero_add], _, HG2.out (by omega) hca, HC2.out _ B3.out.drew⟩) (by rw [length_splice _ _ _ (by rw [HL1.out]; simp; omega), HL2.out]; simp; omega) (ints_one _) w.heap.size w B3.out.drew (Nat.le_refl _) ?_; intro w4 h8 h9; have C4 := h8; have B4 := hid_of h9; clear h8 h9)
  all_goals go_wp2
  go_ret
  refine ⟨some ⟨w.heap.size, 0, none⟩, m, rfl, Nat.le_refl _, B4.out, ?_⟩
  have h5 := C4.out
  rw [HFT.out] at h5
  rw [HLE.out]
  exact ⟨by rw [HLE.out, Nat.mul_one], .inr ⟨w.heap.size, m, _, rfl, Nat.le_refl _, h5, Nat.le_refl _, by unfold maxLen; omega, by simp [HLE.out], by rw [List.take_of_length_le (by simp [HLE.out])]⟩⟩
end Go.Proofs.Ytedohggbpmcehaa

/- The state of removePremises: the chase, the rules so far, the pairs that live, the boxes. Bounds on sizes alone. -/
namespace Go.Proofs.Ytedohggbpmcehaa
open Go.RowKit
set_option maxRecDepth 100000
set_option maxHeartbeats 1600000

abbrev Bx := Nat × PV
structure RpS (c n : Nat) (R : List Hrl) (w w8 : World) (oo : Option Addr) (m oc : Nat) (L M : List PV) (Q : List Hrl) (X : List Bx) (wz : World) (T : List Nat) (kk : Nat) (V : CV) (S : Nat → Prop) : Prop where
  ch : CH wz c n R (lackR R off0 (T.take kk)) (memB T) T kk V S
  kle : kk ≤ T.length
  bel : Below w.heap.size w wz
  sge : ∀ b, S b → w.heap.size ≤ b
  var : ∀ (i : Nat) (v : Value), V.ar[i]? = some v → ∀ g, v.ownBlock = some g → g < w8.heap.size
  siz : w8.heap.size ≤ wz.heap.size
  row : wz.ownsRow w8.heap.size 90 2 (.slice oo m oc) L.length (prs L)
  rows : ∀ g, (Value.slice oo m oc).ownBlock = some g → ¬ S g
  len : M.length = Q.length
  liv : ∀ (i : Nat) (t : PV) (q : Hrl), M[i]? = some t → Q[i]? = some q → (wz.ownsRow 0 3 1 t.1 q.1.length (ints q.1) ∧ wz.ownsRow 0 3 1 t.2 q.2.length (ints q.2)) ∧ (∀ g, t.1.ownBlock = some g → ¬ S g) ∧ ∀ g, t.2.ownBlock = some g → ¬ S g
  box : ∀ x ∈ X, wz.heap[x.1]? = some (.cells #[x.2.1, x.2.2] 90 (0, 0)) ∧ ¬ S x.1 ∧ w8.heap.size ≤ x.1 ∧ ∀ g, (Value.slice oo m oc).ownBlock = some g → g ≠ x.1
def RpI (c n : Nat) (R : List Hrl) (w w8 : World) (oo : Option Addr) (m oc : Nat) (L M : List PV) (Q : List Hrl) (X : List Bx) (wz : World) : Prop :=
  ∃ T kk V S, RpS c n R w w8 oo m oc L M Q X wz T kk V S
section
variable {c n : Nat} {R : List Hrl} {w w8 wz w' : World} {oo : Option Addr} {m oc : Nat} {L M : List PV} {Q : List Hrl} {X : List Bx} {T : List Nat} {kk : Nat} {V : CV} {S : Nat → Prop}
theorem RpS.at (h : RpS c n R w w8 oo m oc L M Q X wz T kk V S) (b : Below wz.heap.size wz w') : RpS c n R w w8 oo m oc L M Q X w' T kk V S where
  ch := h.ch.at b
  kle := h.kle
  bel := h.bel.trans (b.mono h.bel.size)
  sge := h.sge
  var := h.var
  siz := Nat.le_trans h.siz b.size
  row := own_same2 h.row fun k hk => b.block k (h.row.lt k hk).2
  rows := h.rows
  len := h.len
  liv := fun i t q ht hq => by
    obtain ⟨⟨o1, o2⟩, s1, s2⟩ := h.liv i t q ht hq
    exact ⟨⟨own_same o1 fun k hk => b.block k (own_lt o1 hk), own_same o2 fun k hk => b.block k (own_lt o2 hk)⟩, s1, s2⟩
  box := fun x hx => ⟨(b.block _ (lt_of_block (h.box x hx).1)).trans (h.box x hx).1, (h.box x hx).2⟩
theorem RpI.at (h : RpI c n R w w8 oo m oc L M Q X wz) (b : Below wz.heap.size wz w') : RpI c n R w w8 oo m oc L M Q X w' := by
  obtain ⟨T, kk, V, S, h⟩ := h
  exact ⟨T, kk, V, S, h.at b⟩
theorem RpI.bel (h : RpI c n R w w8 oo m oc L M Q X wz) : Below w.heap.size w wz := by
  obtain ⟨T, kk, V, S, h⟩ := h
  exact h.bel
theorem RpI.newbox (h : RpI c n R w w8 oo m oc L M Q X wz) (b : Below wz.heap.size wz w') {bt : Nat} {v1 v2 : Value} (hb : w'.heap[bt]? = some (.cells #[v1, v2] 90 (0, 0))) (hge : wz.heap.size ≤ bt) : RpI c n R w w8 oo m oc L M Q ((bt, (v1, v2)) :: X) w' := by
  obtain ⟨T, kk, V, S, h⟩ := h
  have h' := h.at b
  refine ⟨T, kk, V, S, { h' with box := fun x hx => ?_ }⟩
  rcases List.mem_cons.1 hx with rfl | hx
  · refine ⟨hb, fun hs => by have := h.ch.sz _ hs; simp only at this; omega, Nat.le_trans h.siz hge, fun g hg e => ?_⟩
    have := (h.row.lt g hg).2
    simp only at e
    omega
  · exact h'.box x hx
theorem RpI.pushIn (h : RpI c n R w w8 oo m oc L M Q X wz) {B0 : Nat} {v1 v2 : Value} {z : Hrl} (o1 : w.ownsRow B0 3 1 v1 z.1.length (ints z.1)) (o2 : w.ownsRow B0 3 1 v2 z.2.length (ints z.2)) : RpI c n R w w8 oo m oc L (M ++ [(v1, v2)]) (Q ++ [z]) X wz := by
  obtain ⟨T, kk, V, S, h⟩ := h
  refine ⟨T, kk, V, S, { h with len := by simp [h.len], liv := fun i t q ht hq => ?_ }⟩
  by_cases e : i < M.length
  · rw [List.getElem?_append_left e] at ht
    rw [List.getElem?_append_left (by rw [← h.len]; exact e)] at hq
    exact h.liv i t q ht hq
  · rw [List.getElem?_append_right (by omega)] at ht
    rw [List.getElem?_append_right (by rw [← h.len]; omega)] at hq
    have hi : i = M.length := by have := (List.getElem?_eq_some_iff.1 ht).1; simp at this; omega
    rw [hi, Nat.sub_self] at ht
    rw [hi, h.len, Nat.sub_self] at hq
    simp only [List.getElem?_cons_zero, Option.some.injEq] at ht hq
    rw [← ht, ← hq]
    refine ⟨⟨own_base (own_same o1 fun k hk => h.bel.block k (own_lt o1 hk)), own_base (own_same o2 fun k hk => h.bel.block k (own_lt o2 hk))⟩, fun g hg hs => ?_, fun g hg hs => ?_⟩
    · have := own_lt o1 hg; have := h.sge g hs; omega
    · have := own_lt o2 hg; have := h.sge g hs; omega
theorem RpS.push (h : RpS c n R w w8 oo m oc L M Q X wz T kk V S) (b : Below wz.heap.size wz w') {B1 : Nat} {v1 v2 : Value} {p cc : List Nat} (o1 : w'.ownsRow B1 3 1 v1 p.length (ints p)) (hB : wz.heap.size ≤ B1) {i : Nat} {u : Value} {q' : List Nat} (hM : M[i]? = some (u, v2)) (hQ : Q[i]? = some (q', cc)) : RpS c n R w w8 oo m oc L (M ++ [(v1, v2)]) (Q ++ [(p, cc)]) X w' T kk V S := by
  have h' := h.at b
  refine { h' with len := by simp [h.len], liv := fun j t q ht hq => ?_ }
  by_cases e : j < M.length
  · rw [List.getElem?_append_left e] at ht
    rw [List.getElem?_append_left (by rw [← h.len]; exact e)] at hq
    exact h'.liv j t q ht hq
  · rw [List.getElem?_append_right (by omega)] at ht
    rw [List.getElem?_append_right (by rw [← h.len]; omega)] at hq
    have hi : j = M.length := by have := (List.getElem?_eq_some_iff.1 ht).1; simp at this; omega
    rw [hi, Nat.sub_self] at ht
    rw [hi, h.len, Nat.sub_self] at hq
    simp only [List.getElem?_cons_zero, Option.some.injEq] at ht hq
    rw [← ht, ← hq]
    obtain ⟨⟨_, p2⟩, _, s2⟩ := h'.liv i _ _ hM hQ
    refine ⟨⟨own_base o1, p2⟩, fun g hg hs => ?_, s2⟩
    have := (o1.lt g hg).1
    have := h.ch.sz g hs
    omega
def AftB (wr wf : World) (bw : Nat) (vb v2 : Value) (p : List Nat) : Prop :=
  Below wr.heap.size wr wf ∧ wf.heap[bw]? = some (.cells #[vb, v2] 90 (0, 0)) ∧ wr.heap.size ≤ bw ∧ ∃ B1, wr.heap.size ≤ B1 ∧ wf.ownsRow B1 3 1 vb p.length (ints p)
theorem RpI.both {wf : World} {bw : Nat} {vb v2 u : Value} {p q' cc : List Nat} (h : RpI c n R w w8 oo m oc L M Q X wz) (hA : AftB wz wf bw vb v2 p) {i : Nat} (hM : M[i]? = some (u, v2)) (hQ : Q[i]? = some (q', cc)) : RpI c n R w w8 oo m oc L (M ++ [(vb, v2)]) (Q ++ [(p, cc)]) ((bw, (vb, v2)) :: X) wf := by
  obtain ⟨T, kk, V, S, h⟩ := h
  obtain ⟨b, e, hge, B1, hB, o⟩ := hA
  have h' := h.push b o hB hM hQ
  refine ⟨T, kk, V, S, { h' with box := fun x hx => ?_ }⟩
  rcases List.mem_cons.1 hx with rfl | hx
  · refine ⟨e, fun hs => by have := h.ch.sz _ hs; simp only at this; omega, Nat.le_trans h.siz hge, fun g hg e => ?_⟩
    have := (h.row.lt g hg).2
    simp only at e
    omega
  · exact h'.box x hx
theorem RpI.cells {bt : Nat} {v1 v2 : Value} (h : RpI c n R w w8 oo m oc L M Q X wz) (hx : (bt, (v1, v2)) ∈ X) : (wz.cell? ⟨bt, 0, none⟩ = some v1 ∧ wz.cell? ⟨bt, 1, none⟩ = some v2) ∧ (wz.frozen? ⟨bt, 0, none⟩ = false ∧ wz.frozen? ⟨bt, 1, none⟩ = false) := by
  obtain ⟨T, kk, V, S, h⟩ := h
  obtain ⟨b1, _⟩ := h.box _ hx
  have b1' : wz.heap[bt]? = some (.cells [v1, v2].toArray 90 (0, 0)) := b1
  exact ⟨⟨blk_cell b1' (j := 0) rfl, blk_cell b1' (j := 1) rfl⟩, blk_free b1' 0, blk_free b1' 1⟩
theorem RpI.leng (h : RpI c n R w w8 oo m oc L M Q X wz) : M.length = Q.length := by
  obtain ⟨T, kk, V, S, h⟩ := h
  exact h.len
theorem RpI.sub (h : RpI c n R w w8 oo m oc L M Q X wz) {M' : List PV} {Q' : List Hrl} {X' : List Bx} (hl : M'.length = Q'.length) (hM : ∀ (i : Nat) (t : PV) (q : Hrl), M'[i]? = some t → Q'[i]? = some q → ∃ j : Nat, M[j]? = some t ∧ Q[j]? = some q) (hX : ∀ x ∈ X', x ∈ X) : RpI c n R w w8 oo m oc L M' Q' X' wz := by
  obtain ⟨T, kk, V, S, h⟩ := h
  exact ⟨T, kk, V, S, { h with len := hl, liv := fun i t q ht hq => by obtain ⟨j, h1, h2⟩ := hM i t q ht hq; exact h.liv j t q h1 h2, box := fun x hx => h.box x (hX x hx) }⟩
/-- The last pair goes; the one before the last goes. -/
theorem RpI.pop {t : PV} {q : Hrl} (h : RpI c n R w w8 oo m oc L (M ++ [t]) (Q ++ [q]) X wz) {X' : List Bx} (hX : ∀ x ∈ X', x ∈ X) : RpI c n R w w8 oo m oc L M Q X' wz := by
  have hl : M.length = Q.length := by obtain ⟨_, _, _, _, h1⟩ := h; have := h1.len; simpa using this
  refine h.sub hl (fun i t q ht hq => ⟨i, ?_, ?_⟩) hX
  · rw [List.getElem?_append_left (List.getElem?_eq_some_iff.1 ht).1]; exact ht
  · rw [List.getElem?_append_left (List.getElem?_eq_some_iff.1 hq).1]; exact hq
theorem RpI.mid {t t2 : PV} {q q2 : Hrl} (h : RpI c n R w w8 oo m oc L (M ++ [t] ++ [t2]) (Q ++ [q] ++ [q2]) X wz) {X' : List Bx} (hX : ∀ x ∈ X', x ∈ X) : RpI c n R w w8 oo m oc L (M ++ [t2]) (Q ++ [q2]) X' wz := by
  have hl : M.length = Q.length := by obtain ⟨_, _, _, _, h1⟩ := h; have := h1.len; simpa using this
  refine h.sub (by simp [hl]) (fun i t q ht hq => ?_) hX
  by_cases e : i < M.length
  · rw [List.getElem?_append_left e] at ht
    rw [List.getElem?_append_left (by omega)] at hq
    refine ⟨i, ?_, ?_⟩
    · rw [List.append_assoc, List.getElem?_append_left e]; exact ht
    · rw [List.append_assoc, List.getElem?_append_left (by omega)]; exact hq
  · have hi : i = M.length := by have := (List.getElem?_eq_some_iff.1 ht).1; simp at this; omega
    refine ⟨M.length + 1, ?_, ?_⟩
    · rw [List.getElem?_append_right (by simp)]
      rw [hi, List.getElem?_append_right (Nat.le_refl _)] at ht
      simpa using ht
    · rw [List.getElem?_append_right (by simp [hl])]
      rw [hi, List.getElem?_append_right (by omega)] at hq
      simpa [hl] using hq
theorem RpI.ent (h : RpI c n R w w8 oo m oc L M Q X wz) {i : Nat} {t1 t2 : Value} {q : Hrl} (ht : M[i]? = some (t1, t2)) (hq : Q[i]? = some q) (hp : ∀ y ∈ q.1, y < n) (hc : ∀ y ∈ q.2, y < n) (hn : n ≤ 1000000) :
    Calls Try.prog 52 #[.pointer (some ⟨c, 0, none⟩), .agg #[t1, t2]] wz fun e w3 => e = .returned (.bool (entD R off0 q)) ∧ RpI c n R w w8 oo m oc L M Q X w3 ∧ wz.heap.size ≤ w3.heap.size := by
  obtain ⟨T, kk, V, S, h⟩ := h
  obtain ⟨⟨o1, o2⟩, s1, s2⟩ := h.liv i _ _ ht hq
  refine (ent_any c n kk R off0 T V S q.1 q.2 t1 t2 wz h.ch h.kle (own_rd o1) (own_rd o2) (fun g hg => ⟨own_lt o1 hg, s1 g hg⟩) (fun g hg => ⟨own_lt o2 hg, s2 g hg⟩) hp hc hn (fun i => by simp [off0])).mono ?_
  rintro e3 w3 ⟨b, T', tv, S', rfl, hb2, hch, hcg⟩
  have hbe : b = entD R off0 q := by
    unfold entD
    rw [Bool.eq_iff_iff, hb2]
    exact (@decide_eq_true_iff _ (Classical.propDecidable _)).symm
  have hS : ∀ g, g < wz.heap.size → ¬ S g → ¬ S' g := fun g hg hs hs' => by
    rcases hcg.sub g hs' with h1 | h1
    · exact hs h1
    · omega
  refine ⟨by rw [hbe], ⟨T', _, _, S', hch, Nat.le_refl _, h.bel.trans (hcg.below h.bel.size h.sge), fun b hb => ?_, h.var, Nat.le_trans h.siz hcg.kept.size, own_same2 h.row fun k hk => hcg.kept.block k (h.row.lt k hk).2 (h.rows k hk), fun g hg => hS g (h.row.lt g hg).2 (h.rows g hg), h.len, fun i t q ht hq => ?_, fun x hx => ?_⟩, hcg.kept.size⟩
  · rcases hcg.sub b hb with h1 | h1
    · exact h.sge b h1
    · exact Nat.le_trans h.bel.size h1
  · obtain ⟨⟨p1, p2⟩, r1, r2⟩ := h.liv i t q ht hq
    exact ⟨⟨hcg.own p1 r1, hcg.own p2 r2⟩, fun g hg => hS g (own_lt p1 hg) (r1 g hg), fun g hg => hS g (own_lt p2 hg) (r2 g hg)⟩
  · obtain ⟨b1, b2, b3, b4⟩ := h.box x hx
    exact ⟨(hcg.kept.block _ (lt_of_block b1) b2).trans b1, hS _ (lt_of_block b1) b2, b3, b4⟩
theorem RpI.store {bt : Nat} {v1 v2 u1 u2 : Value} (h : RpI c n R w w8 oo m oc L M Q X wz) (hx : (bt, (v1, v2)) ∈ X) (h68 : w.heap.size ≤ w8.heap.size) : RpI c n R w w8 oo m oc L M Q [(bt, (u1, u2))] ((wz.setCell ⟨bt, 0, none⟩ u1).setCell ⟨bt, 1, none⟩ u2) := by
  obtain ⟨T, kk, V, S, h⟩ := h
  obtain ⟨b1, b2, b3, b4⟩ := h.box _ hx
  simp only at b1 b2 b3 b4
  have ho : ∀ g, g ≠ bt → ((wz.setCell ⟨bt, 0, none⟩ u1).setCell ⟨bt, 1, none⟩ u2).heap[g]? = wz.heap[g]? := fun g hg => (set_other hg).trans (set_other hg)
  have hz : ((wz.setCell ⟨bt, 0, none⟩ u1).setCell ⟨bt, 1, none⟩ u2).heap.size = wz.heap.size := by simp
  have hint : ∀ {B k2 : Nat} {v : Value} {xs : List Value}, wz.ownsRow B 3 1 v k2 xs → ∀ g, v.ownBlock = some g → g ≠ bt := fun o g hg => own_ne o hg b1 (by decide)
  refine ⟨T, kk, V, S, h.ch.chg (F := fun g => g = bt) (F' := fun g => g = bt) ⟨⟨rfl, rfl, rfl, by rw [hz]; exact Nat.le_refl _, fun k _ hn => ho k hn⟩, fun k h => .inl h⟩ (fun g hs e => b2 (e ▸ hs)) (fun i v hv g hg e => by have := h.var i v hv g hg; omega), h.kle,
    ⟨h.bel.os, h.bel.tape, h.bel.output, by rw [hz]; exact h.bel.size, fun k hk => (ho k (by omega)).trans (h.bel.block k hk)⟩, h.sge, h.var, by rw [hz]; exact h.siz, own_same2 h.row fun k hk => ho k (b4 k hk), h.rows, h.len, fun i t q ht hq => ?_, fun x hx => ?_⟩
  · obtain ⟨⟨o1, o2⟩, s1, s2⟩ := h.liv i t q ht hq
    exact ⟨⟨own_same o1 fun k hk => ho k (hint o1 k hk), own_same o2 fun k hk => ho k (hint o2 k hk)⟩, s1, s2⟩
  · rw [List.mem_singleton.1 hx]
    have b1' : wz.heap[bt]? = some (.cells [v1, v2].toArray 90 (0, 0)) := b1
    exact ⟨blk_setCell (k := 1) (u := u2) (blk_setCell (k := 0) (u := u1) b1'), b2, b3, b4⟩
theorem RpI.app {ao : Option Addr} {n2 cap2 : Nat} {t : PV} {o : Obj} (h68 : w.heap.size ≤ w8.heap.size) (h : RpI c n R w w8 oo m oc L M Q X wz) (hn2 : n2 = L.length + 1) (hown : w'.ownsRow w8.heap.size 90 2 (.slice ao n2 cap2) n2 (prs L ++ prs [t])) (hg : (wz.alloc o).grownBy w' (Value.slice oo m oc).ownBlock)
    (hf : (Value.slice ao n2 cap2).ownBlock = (Value.slice oo m oc).ownBlock ∨ (Value.slice ao n2 cap2).ownBlock = some (wz.alloc o).heap.size) : RpI c n R w w8 ao n2 cap2 (L ++ [t]) M Q [] w' := by
  obtain ⟨T, kk, V, S, h⟩ := h
  have b := bel_alloc wz o
  have h' := h.at b
  refine ⟨T, kk, V, S, h'.ch.chg (F := fun g => (Value.slice oo m oc).ownBlock = some g) (F' := fun g => (Value.slice oo m oc).ownBlock = some g) ⟨⟨hg.os, hg.tape, hg.output, hg.size, fun k hk hn => hg.block k hk (fun e => hn e.symm)⟩, fun k h => .inl h⟩ (fun g hs hF => h.rows g hF hs) (fun i v hv g hg1 hF => by have := h.var i v hv g hg1; have := (h'.row.lt g hF).1; omega), h.kle,
    h'.bel.grown hg h'.bel.size (fun k hk => ?_), h.sge, h.var, Nat.le_trans h'.siz hg.size, ?_, fun g hg1 hs => ?_, h.len, fun i t q ht hq => ?_, fun x hx => (by cases hx)⟩
  · have := (h'.row.lt k hk).1; omega
  · rw [List.length_append, List.length_singleton, ← hn2, prs_append]; exact hown
  · rcases hf with hf | hf
    · exact h.rows g (hf.symm.trans hg1) hs
    · have := h.ch.sz g hs
      rw [hg1] at hf
      simp at hf
      omega
  · obtain ⟨⟨o1, o2⟩, s1, s2⟩ := h'.liv i t q ht hq
    exact ⟨⟨own_grown o1 h'.row (by decide) hg, own_grown o2 h'.row (by decide) hg⟩, s1, s2⟩
/-- What a round of the inner loop reads. -/
theorem rp_in {v1 v2 : Value} {p cc : List Nat} {bt : Nat} (h : RpI c n R w w8 oo m oc L (M ++ [(v1, v2)]) (Q ++ [(p, cc)]) [(bt, (v1, v2))] wz) (hn : p.length ≤ 1000000) :
    ∃ a1 c1 a2 c2, v1 = .slice a1 p.length c1 ∧ v2 = .slice a2 cc.length c2 ∧ (wz.cell? ⟨bt, 0, none⟩ = some v1 ∧ wz.cell? ⟨bt, 1, none⟩ = some v2) ∧ (wz.frozen? ⟨bt, 0, none⟩ = false ∧ wz.frozen? ⟨bt, 1, none⟩ = false) ∧ bt < wz.heap.size ∧
      Hid (∀ W, Below wz.heap.size wz W → W.cell? ⟨bt, 0, none⟩ = some v1 ∧ W.cell? ⟨bt, 1, none⟩ = some v2) ∧
      Hid (∀ j W, j < p.length → Below wz.heap.size wz W → Calls Try.prog 76 #[v1, .int .i64 j] W fun e w2 => ∃ bo bc, e = .returned (.slice bo (p.length - 1) bc) ∧ Ow 3 W.heap.size W w2 (.slice bo (p.length - 1) bc) (ints (p.eraseIdx j))) := by
  obtain ⟨T, kk, V, S, h⟩ := h
  obtain ⟨b1, _, _, _⟩ := h.box _ (List.mem_singleton.2 rfl)
  simp only at b1
  have hl : M.length = Q.length := by have := h.len; simpa using this
  obtain ⟨⟨o1, o2⟩, s1, s2⟩ := h.liv M.length (v1, v2) (p, cc) (by rw [List.getElem?_append_right (Nat.le_refl _), Nat.sub_self]; rfl) (by rw [List.getElem?_append_right (by omega), hl, Nat.sub_self]; rfl)
  simp only at o1 o2
  obtain ⟨a1, c1, e1⟩ := own_shape o1
  obtain ⟨a2, c2, e2⟩ := own_shape o2
  have b1' : wz.heap[bt]? = some (.cells [v1, v2].toArray 90 (0, 0)) := b1
  refine ⟨a1, c1, a2, c2, e1, e2, ⟨blk_cell b1' (j := 0) rfl, blk_cell b1' (j := 1) rfl⟩, ⟨blk_free b1' 0, blk_free b1' 1⟩, lt_of_block b1, hid_of fun W hW => ?_, hid_of fun j W hj hW => ?_⟩
  · have e := (hW.block _ (lt_of_block b1')).trans b1'
    exact ⟨blk_cell e (j := 0) rfl, blk_cell e (j := 1) rfl⟩
  · have r1 := own_rd o1
    rw [e1] at r1 ⊢
    exact wo_any a1 p.length c1 p j W (r1.at hW) hj hn
theorem rp_row (h : RpI c n R w w8 oo m oc L M Q X wz) (o : Obj) : (wz.alloc o).ownsRow w8.heap.size 90 2 (.slice oo m oc) L.length (prs L) ∧ w8.heap.size ≤ (wz.alloc o).heap.size := by
  obtain ⟨T, kk, V, S, h⟩ := h
  have h' := h.at (bel_alloc wz o)
  exact ⟨h'.row, h'.siz⟩
theorem rp_end (h : RpI c n R w w8 oo m oc L L Q X wz) : CoR 0 wz (.slice oo m oc) Q ∧ Below w.heap.size w wz := by
  obtain ⟨T, kk, V, S, h⟩ := h
  refine ⟨⟨L, ?_, h.len, fun i t q ht hq => (h.liv i t q ht hq).1⟩, h.bel⟩
  exact OP.prd (E := 90) (B := w8.heap.size) (w0 := wz) ⟨h.siz, Below.refl _ _, h.row⟩
theorem rp_ent {v1 v2 vb : Value} {p p' cc : List Nat} {bt bw : Nat} {wf : World} (h : RpI c n R w w8 oo m oc L (M ++ [(v1, v2)]) (Q ++ [(p, cc)]) [(bt, (v1, v2))] wz) (hA : AftB wz wf bw vb v2 p') (hp : ∀ y ∈ p', y < n) (hc : ∀ y ∈ cc, y < n) (hn : n ≤ 1000000) :
    (wf.cell? ⟨bw, 0, none⟩ = some vb ∧ wf.cell? ⟨bw, 1, none⟩ = some v2) ∧ Hid (Calls Try.prog 52 #[.pointer (some ⟨c, 0, none⟩), .agg #[vb, v2]] wf fun e w3 => e = .returned (.bool (entD R off0 (p', cc))) ∧
      Hid (RpI c n R w w8 oo m oc L (M ++ [(v1, v2)] ++ [(vb, v2)]) (Q ++ [(p, cc)] ++ [(p', cc)]) [(bw, (vb, v2)), (bt, (v1, v2))] w3) ∧ (w3.cell? ⟨bw, 0, none⟩ = some vb ∧ w3.cell? ⟨bw, 1, none⟩ = some v2) ∧ (w3.cell? ⟨bt, 0, none⟩ = some v1 ∧ w3.cell? ⟨bt, 1, none⟩ = some v2) ∧ (w3.frozen? ⟨bt, 0, none⟩ = false ∧ w3.frozen? ⟨bt, 1, none⟩ = false)) := by
  have hl : M.length = Q.length := by have := h.leng; simpa using this
  have J := h.both hA (i := M.length) (u := v1) (q' := p) (cc := cc) (by rw [List.getElem?_append_right (Nat.le_refl _), Nat.sub_self]; rfl) (by rw [List.getElem?_append_right (by omega), hl, Nat.sub_self]; rfl)
  refine ⟨(J.cells (bt := bw) (v1 := vb) (v2 := v2) (by simp)).1, hid_of ?_⟩
  refine (J.ent (i := M.length + 1) (t1 := vb) (t2 := v2) (q := (p', cc)) (by rw [List.getElem?_append_right (by simp)]; simp) (by rw [List.getElem?_append_right (by simp; omega)]; simp [hl]) hp hc hn).mono ?_
  rintro e w3 ⟨rfl, J3, _⟩
  have c1 := J3.cells (bt := bw) (v1 := vb) (v2 := v2) (by simp)
  have c2 := J3.cells (bt := bt) (v1 := v1) (v2 := v2) (by simp)
  exact ⟨rfl, hid_of J3, c1.1, c2.1, c2.2⟩
end
end Go.Proofs.Ytedohggbpmcehaa

/- A map whose keys are pairs of strings, as a set of keys; joined names. Bounds on sizes alone. -/
namespace Go.Proofs.Ytedohggbpmcehaa
open Go.RowKit Go.Maps
set_option maxRecDepth 100000

theorem keyedI : Keyed Try.prog 106 := Keyed.of_law (deep_law (m := 3) (by decide) (by kernel_rfl) (by kernel_rfl) (by kernel_rfl))
theorem zeroBI (w : World) : (zeroValue 4).run Try.prog w = .ok (.bool false) w := by kernel_rfl
abbrev Ky := Str × Str
def Ky.v (p : Ky) : Value := .agg #[.string (ba p.1), .string (ba p.2)]
def Ky.ok (p : Ky) : Prop := p.1.length ≤ 1000000 ∧ p.2.length ≤ 1000000
def kL (p : Ky) : List UInt8 := keyBytes [.string p.1, .string p.2]
theorem size_two : ∃ n, Try.prog.types.size + 1 = n + 2 := ⟨Try.prog.types.size - 1, by
  have h : Nat.ble 1 Try.prog.types.size = true := by kernel_rfl
  have := Nat.le_of_ble_eq_true h
  omega⟩
theorem key_has {p : Ky} (h : p.ok) : keyOf Try.prog 106 p.v = some (.string (kL p)) := by
  have h1 : Try.prog.keyType 106 = true := by kernel_rfl
  have h3 : Try.prog.cellsOf 106 = 2 := by kernel_rfl
  have h4 : Try.prog.cellsOf 9 = 1 := by kernel_rfl
  have h2 : p.v.formed Try.prog 106 = true := by
    unfold Ky.v
    simp [Value.formed, Try.underlying106, h3]
  obtain ⟨n, hn⟩ := size_two
  obtain ⟨a1, a2⟩ := h
  have s1 : (ba p.1).size ≤ maxLen := by show p.1.toArray.size ≤ maxLen; unfold maxLen; simp; omega
  have s2 : (ba p.2).size ≤ maxLen := by show p.2.toArray.size ≤ maxLen; unfold maxLen; simp; omega
  unfold keyOf
  rw [Try.underlying106]
  simp only [h1, h2, Bool.and_self, if_true]
  rw [hn]
  unfold Ky.v kL
  simp [Program.keyLits, Try.underlying106, Try.underlying9, h3, h4, s1, s2, Value.cells]
  rfl
theorem ba_inj {x y : Str} (h : ba x = ba y) : x = y := congrArg (fun b : ByteArray => b.data.toList) h
theorem kL_inj {p q : Ky} (hp : p.ok) (hq : q.ok) (h : kL p = kL q) : p = q := by
  have e := keyedI.inj (key_has hp) (by rw [h]; exact key_has hq)
  unfold Ky.v at e
  simp only [Value.agg.injEq, Array.mk.injEq, List.cons.injEq, Value.string.injEq, and_true] at e
  exact Prod.ext (ba_inj e.1) (ba_inj e.2)
/-- Block b is a map in which the keys of a list are true, and no others. -/
def MapI (w : World) (b n : Nat) (keys : List Ky) : Prop :=
  (∀ q ∈ keys, q.ok) ∧ ∃ D : DataW Unit, w.ownsMap Try.prog 106 (plainElem Try.prog 4) b n D ∧ IsMap D ∧ ∀ x : Ky, x.ok → D.atKey (.string (kL x)) (.lit (.bool false)) = .lit (.bool (decide (x ∈ keys)))
theorem mapI_made (w : World) : MapI (w.alloc (.map #[] 0)) w.heap.size 0 [] :=
  ⟨fun q h => (by cases h), .map [], World.ownsMap_made w _ _ _, isMap_empty, fun x _ => by simp [DataW.atKey]⟩
theorem MapI.same {w w' : World} {b n : Nat} {keys : List Ky} (h : MapI w b n keys) (hb : w'.heap[b]? = w.heap[b]?) : MapI w' b n keys := by
  obtain ⟨h0, D, ⟨es, clock, h1, h2, h3, h4⟩, h5, h6⟩ := h
  exact ⟨h0, D, ⟨es, clock, hb.trans h1, h2, h3, h4⟩, h5, h6⟩
theorem MapI.lt {w : World} {b n : Nat} {keys : List Ky} (h : MapI w b n keys) : b < w.heap.size := by
  obtain ⟨_, D, h1, _⟩ := h; exact h1.lt
theorem plainElem_bool_invI {v : Value} {q : Bool} {ps : List MemPlace} (h : plainElem (H := Unit) Try.prog 4 v = some (.lit (.bool q), ps)) : v = .bool q := by
  unfold plainElem at h
  rw [Try.underlying4] at h
  split at h
  · rename_i x _ ; simp only [Option.some.injEq, Prod.mk.injEq, DataW.lit.injEq, Lit.bool.injEq] at h; rw [h.1]
  · rename_i e; cases e
  · rename_i e; cases e
  · cases h
theorem MapI.look {w : World} {b n : Nat} {keys : List Ky} (h : MapI w b n keys) (x : Ky) (hx : x.ok) :
    (Instr.lookup 104 (.map (some b)) x.v false).run Try.prog w = .ok (.bool (decide (x ∈ keys))) w := by
  obtain ⟨_, D, h1, h2, h3⟩ := h
  obtain ⟨v, ps, hrun, hv⟩ := h1.lookup keyedI Try.underlying104 (zeroBI w) (plainElem_bool Try.underlying4 false) (key_has hx)
  rw [h3 x hx] at hv
  rw [hrun, plainElem_bool_invI hv]
theorem mapI_put {w' : World} {b n : Nat} {keys : List Ky} {x : Ky} {D : DataW Unit} (h1 : w'.ownsMap Try.prog 106 (plainElem Try.prog 4) b (n + 1) (D.put (.string (kL x)) (.lit (.bool true))))
    (h0 : ∀ q ∈ keys, q.ok) (hx : x.ok) (h2 : IsMap D) (h3 : ∀ x : Ky, x.ok → D.atKey (.string (kL x)) (.lit (.bool false)) = .lit (.bool (decide (x ∈ keys)))) : MapI w' b (n + 1) (keys ++ [x]) := by
  refine ⟨fun q hq => ?_, _, h1, h2.put _ _, fun y hy => ?_⟩
  · rw [List.mem_append, List.mem_singleton] at hq
    rcases hq with hq | rfl
    · exact h0 q hq
    · exact hx
  by_cases e : y = x
  · subst e
    have hk : WideAt.IsKeyLit (.string (kL y)) := trivial
    rw [atKey_put_same h2 hk]
    simp
  · rw [atKey_put_other (by intro e2; simp only [Lit.string.injEq] at e2; exact e (kL_inj hy hx (by first | exact e2 | exact e2.symm))), h3 y hy]
    congr 3
    rw [List.mem_append, List.mem_singleton]
    simp [e]
/-- The store at the operation. -/
theorem wpList_putI {ops : Array Oper} {rest : List Oper} {o : Oper} {a : Act} {w : World} {Q : Exit → Act → World → Prop} (hg : o.guard = none) (m x v : Operand)
    (hop : o.op = Op.mapUpdate 104 m x v) (b n : Nat) (keys : List Ky) (y : Ky) (hm : a.eval m = .map (some b)) (hx : a.eval x = y.v) (hv : a.eval v = .bool true) (h : MapI w b n keys) (hn : n ≤ 1000000) (hy : y.ok)
    (hK : ∀ w', MapI w' b (n + 1) (keys ++ [y]) → w.grownBy w' (some b) → wpList Try.prog ops Q rest (a.put o.dst undef) w') : wpList Try.prog ops Q (o :: rest) a w := by
  obtain ⟨h0, D, h1, h2, h3⟩ := h
  refine wpList_mapUpdate_own w hg m x v 104 hop 106 4 keyedI Try.underlying104 _ b n D hm h1 (by unfold maxLen; omega) y.v (.bool true) (.string (kL y)) hx hv
    (key_has hy) (.lit (.bool true)) [] (plainElem_bool Try.underlying4 true) (fun w' hown hgrow => hK w' (mapI_put hown h0 hy h2 h3) hgrow)

/-! Names joined by commas. -/
def jn (l : List Str) : Str := Lib.join l [44]
theorem joinTail_cons (x : Str) (r : List Str) : Lib.joinTail [44] (x :: r) = 44 :: x ++ Lib.joinTail [44] r := by simp [Lib.joinTail]
theorem jn_cons (x : Str) (r : List Str) : jn (x :: r) = x ++ Lib.joinTail [44] r := Lib.join_cons x r [44]
theorem jt_len {m : Nat} : ∀ l : List Str, (∀ x ∈ l, x.length ≤ m) → (Lib.joinTail [44] l).length ≤ (m + 1) * l.length := by
  intro l; induction l with
  | nil => intro _; simp [Lib.joinTail]
  | cons x l ih =>
    intro h
    have h1 := ih (fun y hy => h y (by simp [hy]))
    have h2 := h x (by simp)
    rw [joinTail_cons, List.length_append, List.length_cons, List.length_cons, Nat.mul_add, Nat.mul_one]
    omega
theorem jn_len {m : Nat} (l : List Str) (h : ∀ x ∈ l, x.length ≤ m) : (jn l).length ≤ (m + 1) * l.length := by
  cases l with
  | nil => simp [jn, Lib.join_nil]
  | cons x r =>
    have h1 := jt_len r (fun y hy => h y (by simp [hy]))
    have h2 := h x (by simp)
    rw [jn_cons, List.length_append, List.length_cons, Nat.mul_add, Nat.mul_one]
    omega
/-- No comma in it, and not empty. -/
def Wd (x : Str) : Prop := (44 : UInt8) ∉ x ∧ x ≠ []
theorem jt_shape (l : List Str) : Lib.joinTail [44] l = [] ∧ l = [] ∨ ∃ x r, l = x :: r ∧ Lib.joinTail [44] l = 44 :: (x ++ Lib.joinTail [44] r) := by
  cases l with
  | nil => left; simp [Lib.joinTail]
  | cons x r => right; exact ⟨x, r, rfl, by rw [joinTail_cons]; rfl⟩
/-- A word in front of a rest that is empty or begins with a comma is found again. -/
theorem word_split : ∀ {x y s t : Str}, (44 : UInt8) ∉ x → (44 : UInt8) ∉ y → (s = [] ∨ ∃ s', s = 44 :: s') → (t = [] ∨ ∃ t', t = 44 :: t') → x ++ s = y ++ t → x = y ∧ s = t
  | [], [], s, t, _, _, _, _, h => ⟨rfl, by simpa using h⟩
  | [], b :: y, s, t, _, hy, hs, _, h => by
    rcases hs with rfl | ⟨s', rfl⟩
    · simp at h
    · simp only [List.nil_append, List.cons_append, List.cons.injEq] at h
      exact absurd (by rw [← h.1]; simp) hy
  | a :: x, [], s, t, hx, _, _, ht, h => by
    rcases ht with rfl | ⟨t', rfl⟩
    · simp at h
    · simp only [List.nil_append, List.cons_append, List.cons.injEq] at h
      exact absurd (by rw [h.1]; simp) hx
  | a :: x, b :: y, s, t, hx, hy, hs, ht, h => by
    simp only [List.cons_append, List.cons.injEq] at h
    obtain ⟨e1, e2⟩ := word_split (fun hm => hx (List.mem_cons_of_mem _ hm)) (fun hm => hy (List.mem_cons_of_mem _ hm)) hs ht h.2
    exact ⟨by rw [h.1, e1], e2⟩
theorem jt_head (l : List Str) : Lib.joinTail [44] l = [] ∨ ∃ s, Lib.joinTail [44] l = 44 :: s := by
  rcases jt_shape l with h | ⟨x, r, _, h⟩
  · exact .inl h.1
  · exact .inr ⟨_, h⟩
theorem jt_inj : ∀ {a b : List Str}, (∀ x ∈ a, Wd x) → (∀ x ∈ b, Wd x) → Lib.joinTail [44] a = Lib.joinTail [44] b → a = b
  | [], [], _, _, _ => rfl
  | [], y :: b, _, _, h => by rw [joinTail_cons] at h; simp [Lib.joinTail] at h
  | x :: a, [], _, _, h => by rw [joinTail_cons] at h; simp [Lib.joinTail] at h
  | x :: a, y :: b, ha, hb, h => by
    rw [joinTail_cons, joinTail_cons, List.cons_append, List.cons_append, List.cons.injEq] at h
    obtain ⟨e1, e2⟩ := word_split (ha x (by simp)).1 (hb y (by simp)).1 (jt_head a) (jt_head b) h.2
    rw [e1, jt_inj (fun z hz => ha z (List.mem_cons_of_mem _ hz)) (fun z hz => hb z (List.mem_cons_of_mem _ hz)) e2]
theorem jn_inj {a b : List Str} (ha : ∀ x ∈ a, Wd x) (hb : ∀ x ∈ b, Wd x) (h : jn a = jn b) : a = b := by
  have hne : ∀ (x : Str) (r : List Str), Wd x → jn (x :: r) ≠ jn [] := fun x r hx e => by
    rw [jn_cons] at e
    have : x ++ Lib.joinTail [44] r = [] := by rw [e]; simp [jn, Lib.join_nil]
    exact hx.2 (List.append_eq_nil_iff.1 this).1
  cases a with
  | nil =>
    cases b with
    | nil => rfl
    | cons y b => exact absurd h.symm (hne y b (hb y (by simp)))
  | cons x a =>
    cases b with
    | nil => exact absurd h (hne x a (ha x (by simp)))
    | cons y b =>
      rw [jn_cons, jn_cons] at h
      obtain ⟨e1, e2⟩ := word_split (ha x (by simp)).1 (hb y (by simp)).1 (jt_head a) (jt_head b) h
      rw [e1, jt_inj (fun z hz => ha z (List.mem_cons_of_mem _ hz)) (fun z hz => hb z (List.mem_cons_of_mem _ hz)) e2]
theorem wd_of_name {x : Str} (h : isName (strBytes (ba x)) = true) : Wd x ∧ x.length ≤ 16 := by
  obtain ⟨h1, h2, _, h4⟩ := (isName_iff _).1 h
  rw [strBytes_length] at h1 h2
  refine ⟨⟨fun hm => ?_, fun e => ?_⟩, h2⟩
  · obtain ⟨j, hj⟩ := List.getElem?_of_mem hm
    obtain ⟨hl, hv⟩ := List.getElem?_eq_some_iff.1 hj
    have := h4 j 44 (by
      rw [strBytes_at (ba x) j hl]
      show some _ = some _
      congr 1
      show ((x.toArray[j]'(by simpa using hl)).toNat : Int) = 44
      simp [hv])
    simp [inw, isl] at this
  · rw [e] at h1
    exact absurd h1 (by decide)
end Go.Proofs.Ytedohggbpmcehaa

/- The reference asks who is in a list of strings. Bounds on sizes alone. -/
namespace Go.Proofs.Ytedohggbpmcehaa
open Go.RowKit

set_option maxRecDepth 100000 in
theorem rhas_any (ao : Option Addr) (n cap : Nat) (l : List Str) (x : Str) (w : World) (R : Rd w (.slice ao n cap) (ss l)) :
    Calls Try.prog 26 #[.slice ao n cap, .string (ba x)] w fun e w' => e = .returned (.bool (decide (x ∈ l))) ∧ w = w' := by
  obtain ⟨hn, h1, h2, h3⟩ := rds_open R
  obtain ⟨r, hr⟩ : ∃ r, r = decide (x ∈ l) := ⟨_, rfl⟩
  rw [← hr]
  have HR := hid_of hr
  have HN := hid_of hn
  clear hr R hn
  obtain ⟨bx, hbx⟩ : ∃ bx, bx = ba x := ⟨_, rfl⟩
  rw [← hbx]
  have HBX := hid_of hbx
  clear hbx
  rcases h3 with h3 | ⟨g, o, rfl, hg, hc⟩
  · have RF : Hid (r = false) := hid_of (by rw [HR.out, h3]; simp)
    obtain rfl : n = 0 := by rw [HN.out, h3]; rfl
    clear h3 HN
    go_enter Try.func26, Try.ntmps26
    go_wp2
    go_loop [5] (fun iv => iv = .int .i64 0) (fun iv => 0)
    case atStart => exact rfl
    case round =>
      obtain rfl := hrel
      go_wp2
      go_ret
      exact ⟨by rw [RF.out] <;> rfl, rfl⟩
  · have HC := hid_of hc
    clear hc
    go_enter Try.func26, Try.ntmps26
    go_wp2
    go_loop [5] (fun iv => ∃ k : Nat, k ≤ n ∧ iv = .int .i64 k ∧ Hid (x ∉ l.take k)) (fun iv => n - (intOf iv).toNat)
    case atStart => exact ⟨0, Nat.zero_le _, rfl, hid_of (by simp)⟩
    case round =>
      obtain ⟨k, hk, rfl, hx⟩ := hrel
      by_cases hlt : k < n
      · have hd : decide (k < n) = true := by simp; omega
        have hkl : Hid (k < l.length) := hid_of (by have := HN.out; omega)
        obtain ⟨bb, hb⟩ : ∃ bb, bb = ba (l[k]'hkl.out) := ⟨_, rfl⟩
        have c1 := HC.out k (l[k]'hkl.out) (List.getElem?_eq_getElem hkl.out)
        rw [← hb] at c1
        by_cases e : l[k]'hkl.out = x
        · have t1 := eq_t hb HBX.out e
          have RF : Hid (r = true) := hid_of (by rw [HR.out, ← e]; simp)
          clear hb e
          go_wp2
          go_ret
          exact ⟨by rw [RF.out] <;> rfl, rfl⟩
        · have t1 := eq_f hb HBX.out e
          have hx2 := hid_of (take_not hkl.out hx.out e)
          clear hb e
          go_wp2
          go_round
          case rel => exact ⟨k + 1, by omega, by go_num, hx2⟩
          case measure => simp [intOf]; omega
      · have hd : decide (k < n) = false := by simp; omega
        have RF : Hid (r = false) := hid_of (by
          rw [HR.out]; have := hx.out; rw [List.take_of_length_le (by have := HN.out; omega)] at this; exact decide_eq_false this)
        go_wp2
        go_ret
        exact ⟨by rw [RF.out] <;> rfl, rfl⟩
end Go.Proofs.Ytedohggbpmcehaa

/- What the statements look at; the reference's Subset. Bounds on sizes alone. -/
namespace Go.Proofs.Ytedohggbpmcehaa
open Go.RowKit

def hvB (U : List Str) (rs : List Gr) : Bool := decide (40 < U.length) || decide (60 < rs.length) || rs.any fun r => decide (41 < r.1.length)
theorem hvB_no {U : List Str} {rs : List Gr} (h : hvB U rs = false) : U.length ≤ 40 ∧ rs.length ≤ 60 ∧ ∀ r ∈ rs, r.1.length ≤ 41 := by
  unfold hvB at h
  simp only [Bool.or_eq_false_iff, decide_eq_false_iff_not, List.any_eq_false] at h
  exact ⟨by omega, by omega, fun r hr => by have := h.2 r hr; simp at this; omega⟩
theorem hvB_yes {U : List Str} {rs : List Gr} (h : 40 < U.length ∨ 60 < rs.length ∨ ∃ r ∈ rs, 41 < r.1.length) : hvB U rs = true := by
  unfold hvB
  rcases h with h | h | ⟨r, hr, h⟩
  · simp [h]
  · simp [h]
  · simp only [Bool.or_eq_true, List.any_eq_true]
    exact .inr ⟨r, hr, decide_eq_true h⟩
theorem RuR.get {w : World} {ro : Option Addr} {rn rc : Nat} {rs : List Gr} (h : RuR w (.slice ro rn rc) rs) {k : Nat} {r : Gr} (hr : rs[k]? = some r) : ∃ g o a c, ro = some ⟨g, o, none⟩ ∧ w.cell? ⟨g, o + k * 2, none⟩ = some (.slice a r.1.length c) ∧ w.cell? ⟨g, o + k * 2 + 1, none⟩ = some (.string (ba r.2)) ∧ Rd w (.slice a r.1.length c) (ss r.1) := by
  obtain ⟨l, h1, h2, h3⟩ := h
  obtain ⟨t, ht⟩ : ∃ t, l[k]? = some t := ⟨_, List.getElem?_eq_getElem (by have := (List.getElem?_eq_some_iff.1 hr).1; omega)⟩
  obtain ⟨g, o, e, c0, c1⟩ := h1.get ht
  obtain ⟨q1, q2⟩ := h3 k t r ht hr
  obtain ⟨a, c, e2, r2⟩ := q1
  rw [ss_length] at e2
  refine ⟨g, o, a, c, e, by rw [c0, e2], by rw [c1, q2], ?_⟩
  rw [← e2]; exact (h3 k t r ht hr).1
theorem RuR.len {w : World} {ro : Option Addr} {rn rc : Nat} {rs : List Gr} (h : RuR w (.slice ro rn rc) rs) : rn = rs.length ∧ rn ≤ 9223372036854775807 := by
  obtain ⟨l, h1, h2, _⟩ := h
  have := h1.cut; omega

set_option maxRecDepth 100000 in
set_option maxHeartbeats 800000 in
theorem heavy_any (uo : Option Addr) (un uc : Nat) (U : List Str) (ro : Option Addr) (rn rc : Nat) (rs : List Gr) (w : World) (hU : Rd w (.slice uo un uc) (ss U)) (hR : RuR w (.slice ro rn rc) rs) :
    Calls Try.prog 16 #[.slice uo un uc, .slice ro rn rc] w fun e w' => e = .returned (.bool (hvB U rs)) ∧ w = w' := by
  obtain ⟨hn, h1, h2, _⟩ := rds_open hU
  obtain ⟨hm, h3⟩ := hR.len
  obtain ⟨r, hr⟩ : ∃ r, r = hvB U rs := ⟨_, rfl⟩
  rw [← hr]
  have HR := hid_of hr
  have HN := hid_of hn
  have HM := hid_of hm
  have HRU := hid_of hR
  have hun : un ≤ 9223372036854775807 := by omega
  clear hr hU hR hn hm h1 h2
  by_cases e1 : 40 < un
  · have d0 : decide ((40 : Int) < (un : Int)) = true := by simp; omega
    have d1 : decide (40 < un) = true := by simp; omega
    have d2 : decide ((un : Int) > 40) = true := by simp; omega
    have RF : Hid (r = true) := hid_of (by rw [HR.out]; exact hvB_yes (.inl (by have := HN.out; omega)))
    go_enter Try.func16, Try.ntmps16
    go_wp2
    go_ret
    exact ⟨by rw [RF.out] <;> rfl, rfl⟩
  · have d0 : decide ((40 : Int) < (un : Int)) = false := by simp; omega
    have d1 : decide (40 < un) = false := by simp; omega
    have d2 : decide ((un : Int) > 40) = false := by simp; omega
    have E1 := hid_of e1
    clear e1
    by_cases e2 : 60 < rn
    · have d3 : decide ((60 : Int) < (rn : Int)) = true := by simp; omega
      have d4 : decide (60 < rn) = true := by simp; omega
      have d5 : decide ((rn : Int) > 60) = true := by simp; omega
      have RF : Hid (r = true) := hid_of (by rw [HR.out]; exact hvB_yes (.inr (.inl (by have := HM.out; omega))))
      go_enter Try.func16, Try.ntmps16
      go_wp2
      go_ret
      exact ⟨by rw [RF.out] <;> rfl, rfl⟩
    · have d3 : decide ((60 : Int) < (rn : Int)) = false := by simp; omega
      have d4 : decide (60 < rn) = false := by simp; omega
      have d5 : decide ((rn : Int) > 60) = false := by simp; omega
      have E2 := hid_of e2
      have hrn : rn ≤ 60 := by omega
      clear e2
      go_enter Try.func16, Try.ntmps16
      go_wp2
      go_loop [5] (fun iv => ∃ k : Nat, k ≤ rn ∧ iv = .int .i64 k ∧ Hid (∀ q ∈ rs.take k, q.1.length ≤ 41)) (fun iv => rn - (intOf iv).toNat)
      case atStart => exact ⟨0, Nat.zero_le _, rfl, hid_of (by simp)⟩
      case round =>
        obtain ⟨k, hk, rfl, hx⟩ := hrel
        by_cases hlt : k < rn
        · have hd : decide (k < rn) = true := by simp; omega
          obtain ⟨q, hq⟩ : ∃ q, rs[k]? = some q := ⟨_, List.getElem?_eq_getElem (by have := HM.out; omega)⟩
          obtain ⟨g, o, a, c, rfl, c0, _, rq⟩ := HRU.out.get hq
          obtain ⟨_, p1, p2, _⟩ := rds_open rq
          obtain ⟨m, hm⟩ : ∃ m, m = q.1.length := ⟨_, rfl⟩
          rw [← hm] at c0 p1
          have hm9 : m ≤ 9223372036854775807 := by omega
          have HQ := hid_of hq
          have HMM := hid_of hm
          clear hq hm rq p1 p2
          by_cases e : 41 < m
          · have t1 : decide ((41 : Int) < (m : Int)) = true := by simp; omega
            have t2 : decide (41 < m) = true := by simp; omega
            have t3 : decide ((m : Int) > 41) = true := by simp; omega
            have RF : Hid (r = true) := hid_of (by rw [HR.out]; exact hvB_yes (.inr (.inr ⟨q, List.mem_of_getElem? HQ.out, by have := HMM.out; omega⟩)))
            clear e
            go_wp2
            go_ret
            exact ⟨by rw [RF.out] <;> rfl, rfl⟩
          · have t1 : decide ((41 : Int) < (m : Int)) = false := by simp; omega
            have t2 : decide (41 < m) = false := by simp; omega
            have t3 : decide ((m : Int) > 41) = false := by simp; omega
            have hx2 : Hid (∀ q ∈ rs.take (k + 1), q.1.length ≤ 41) := hid_of (fun y hy => by
              rw [take_snoc_get HQ.out, List.mem_append, List.mem_singleton] at hy
              rcases hy with hy | rfl
              · exact hx.out y hy
              · have := HMM.out; omega)
            clear e
            go_wp2
            go_round
            case rel => exact ⟨k + 1, by omega, by go_num, hx2⟩
            case measure => simp [intOf]; omega
        · have hd : decide (k < rn) = false := by simp; omega
          have RF : Hid (r = false) := hid_of (by
            rw [HR.out, Bool.eq_false_iff]
            intro h
            unfold hvB at h
            simp only [Bool.or_eq_true, decide_eq_true_iff, List.any_eq_true] at h
            have h5 := hx.out
            rw [List.take_of_length_le (by have := HM.out; omega)] at h5
            have := HN.out; have := HM.out; have := E1.out; have := E2.out
            rcases h with (h | h) | ⟨y, hy, h⟩
            · omega
            · omega
            · have := h5 y hy; omega)
          go_wp2
          go_ret
          exact ⟨by rw [RF.out] <;> rfl, rfl⟩

def subB (a b : List Str) : Bool := a.all fun x => decide (x ∈ b)
theorem subB_iff {a b : List Str} : subB a b = true ↔ ∀ x ∈ a, x ∈ b := by simp [subB]
set_option maxRecDepth 100000 in
set_option maxHeartbeats 800000 in
theorem rsub_any (ao : Option Addr) (n cap : Nat) (a : List Str) (bo : Option Addr) (m cb : Nat) (b : List Str) (w : World) (R : Rd w (.slice ao n cap) (ss a)) (RB : Rd w (.slice bo m cb) (ss b)) :
    Calls Try.prog 25 #[.slice ao n cap, .slice bo m cb] w fun e w' => e = .returned (.bool (subB a b)) ∧ w = w' := by
  obtain ⟨hn, h1, h2, h3⟩ := rds_open R
  obtain ⟨r, hr⟩ : ∃ r, r = subB a b := ⟨_, rfl⟩
  rw [← hr]
  have HR := hid_of hr
  have HN := hid_of hn
  have HH : Hid (∀ bx x, bx = ba x → Calls Try.prog 26 #[.slice bo m cb, .string bx] w fun e w' => e = .returned (.bool (decide (x ∈ b))) ∧ w = w') := hid_of (fun bx x e => by rw [e]; exact rhas_any bo m cb b x w RB)
  clear hr R hn RB
  rcases h3 with h3 | ⟨g, o, rfl, hg, hc⟩
  · have RF : Hid (r = true) := hid_of (by rw [HR.out, h3]; rfl)
    obtain rfl : n = 0 := by rw [HN.out, h3]; rfl
    clear h3 HN
    go_enter Try.func25, Try.ntmps25
    go_wp2
    go_loop [5] (fun iv => iv = .int .i64 0) (fun iv => 0)
    case atStart => exact rfl
    case round =>
      obtain rfl := hrel
      go_wp2
      go_ret
      exact ⟨by rw [RF.out] <;> rfl, rfl⟩
  · have HC := hid_of hc
    clear hc
    go_enter Try.func25, Try.ntmps25
    go_wp2
    go_loop [5] (fun iv => ∃ k : Nat, k ≤ n ∧ iv = .int .i64 k ∧ Hid (∀ x ∈ a.take k, x ∈ b)) (fun iv => n - (intOf iv).toNat)
    case atStart => exact ⟨0, Nat.zero_le _, rfl, hid_of (by simp)⟩
    case round =>
      obtain ⟨k, hk, rfl, hx⟩ := hrel
      by_cases hlt : k < n
      · have hd : decide (k < n) = true := by simp; omega
        have hkl : Hid (k < a.length) := hid_of (by have := HN.out; omega)
        obtain ⟨bb, hb⟩ : ∃ bb, bb = ba (a[k]'hkl.out) := ⟨_, rfl⟩
        have c1 := HC.out k (a[k]'hkl.out) (List.getElem?_eq_getElem hkl.out)
        rw [← hb] at c1
        by_cases e : a[k]'hkl.out ∈ b
        · have HB : Hid (Calls Try.prog 26 #[.slice bo m cb, .string bb] w fun e w' => e = .returned (.bool true) ∧ w = w') := hid_of (by have := HH.out bb _ hb; rw [decide_eq_true e] at this; exact this)
          have hx2 : Hid (∀ x ∈ a.take (k + 1), x ∈ b) := hid_of (fun y hy => by
            rw [take_snoc' hkl.out, List.mem_append, List.mem_singleton] at hy
            rcases hy with hy | rfl
            · exact hx.out y hy
            · exact e)
          clear hb e
          go_wp2_with (go_at_call 26; ((with_reducible refine (HB.out).mono ?_); (rintro ee w' ⟨rfl, rfl⟩)))
          go_round
          case rel => exact ⟨k + 1, by omega, by go_num, hx2⟩
          case measure => simp [intOf]; omega
        · have HB : Hid (Calls Try.prog 26 #[.slice bo m cb, .string bb] w fun e w' => e = .returned (.bool false) ∧ w = w') := hid_of (by have := HH.out bb _ hb; rw [decide_eq_false e] at this; exact this)
          have RF : Hid (r = false) := hid_of (by
            rw [HR.out, Bool.eq_false_iff]; intro h; exact e (subB_iff.1 h _ (List.getElem_mem hkl.out)))
          clear hb e
          go_wp2_with (go_at_call 26; ((with_reducible refine (HB.out).mono ?_); (rintro ee w' ⟨rfl, rfl⟩)))
          go_ret
          exact ⟨by rw [RF.out] <;> rfl, rfl⟩
      · have hd : decide (k < n) = false := by simp; omega
        have RF : Hid (r = true) := hid_of (by
          rw [HR.out]; have h := hx.out; rw [List.take_of_length_le (by have := HN.out; omega)] at h
          exact subB_iff.2 h)
        go_wp2
        go_ret
        exact ⟨by rw [RF.out] <;> rfl, rfl⟩
end Go.Proofs.Ytedohggbpmcehaa

/- Closed, and Close's errors. Bounds on sizes alone. -/
namespace Go.Proofs.Ytedohggbpmcehaa
open Go.RowKit

/-- The set is closed. -/
def clsB (rs : List Gr) (s : List Str) : Bool := rs.all fun r => !(r.1.all fun x => decide (x ∈ s)) || decide (r.2 ∈ s)
theorem clsB_iff {rs : List Gr} {s : List Str} : clsB rs s = true ↔ CldS rs (fun x => x ∈ s) := by
  unfold clsB CldS
  rw [List.all_eq_true]
  refine forall_congr' fun r => forall_congr' fun _ => ?_
  rw [Bool.or_eq_true, Bool.not_eq_true', decide_eq_true_iff]
  constructor
  · rintro (h | h) hp
    · have : (r.1.all fun x => decide (x ∈ s)) = true := List.all_eq_true.2 fun y hy => decide_eq_true (hp y hy)
      rw [this] at h; cases h
    · exact h
  · intro h
    by_cases hp : (r.1.all fun x => decide (x ∈ s)) = true
    · exact .inr (h fun y hy => of_decide_eq_true (List.all_eq_true.1 hp y hy))
    · exact .inl (by simpa using hp)
theorem sub_len : ∀ (A B : List Nat), A.Nodup → (∀ x ∈ A, x ∈ B) → A.length ≤ B.length := by
  intro A
  induction A with
  | nil => intro B _ _; simp
  | cons a A ih =>
    intro B hA hB
    have ⟨h1, h2⟩ := List.nodup_cons.1 hA
    have h3 := ih (B.erase a) h2 (fun x hx => (List.mem_erase_of_ne (by rintro rfl; exact h1 hx)).2 (hB x (List.mem_cons_of_mem _ hx)))
    have h4 := List.length_erase_of_mem (hB a List.mem_cons_self)
    have h5 : 0 < B.length := List.length_pos_of_mem (hB a List.mem_cons_self)
    simp only [List.length_cons]
    omega
theorem len_cld {U : List Str} {rs : List Gr} {R : List Hrl} {s : List Str} {L T : List Nat} (hq : cwsE U rs s = 0) (hc : Cmp U rs R) (hL : Ix U s L) (hT : ∀ x, x ∈ T ↔ Der (On R off0) (fun x => x ∈ L) x) (hn : T.Nodup) (htn : ∀ x ∈ T, x < U.length) : decide (T.length = L.length) = clsB rs s := by
  have h0 : chkE U rs = 0 := by unfold cwsE at hq; split at hq; assumption; assumption
  have e0 : setE U s = 0 := by unfold cwsE at hq; rwa [if_pos h0] at hq
  obtain ⟨hU, hok⟩ := chk_ok h0
  obtain ⟨hs, _⟩ := setE_zero.1 e0
  have hLn := ix_nodup hs hL
  have hLT : ∀ x ∈ L, x ∈ T := fun x hx => (hT x).2 (.base hx)
  have l1 := sub_len L T hLn hLT
  have key : T.length = L.length ↔ ∀ x ∈ T, x ∈ L := by
    constructor
    · intro e x hx
      apply Classical.byContradiction
      intro hxL
      have := sub_len (x :: L) T (List.nodup_cons.2 ⟨hxL, hLn⟩) (fun y hy => by
        rcases List.mem_cons.1 hy with rfl | hy
        · exact hx
        · exact hLT y hy)
      simp only [List.length_cons] at this
      omega
    · intro h
      have := sub_len T L hn h
      omega
  have key2 : (∀ x ∈ T, x ∈ L) ↔ CldS rs (fun x => x ∈ s) := by
    constructor
    · intro h r hr hp
      obtain ⟨i, h1, h2⟩ := derS_to hU hc hL (fun r hr => ⟨(hok r hr).2.1, (hok r hr).2.2⟩) (DerS.rule hr fun y hy => .base (hp y hy))
      obtain ⟨x, h3, h4⟩ := hL.mem (h i ((hT i).2 h2))
      rw [h1] at h4
      cases h4
      exact h3
    · intro h i hi
      obtain ⟨x, hx⟩ : ∃ x, U[i]? = some x := ⟨_, List.getElem?_eq_getElem (htn i hi)⟩
      have h1 : x ∈ s := derS_least h (fun y hy => hy) (der_toS hc hL ((hT i).1 hi) x hx)
      obtain ⟨j, h2, h3⟩ := hL.mem_back h1
      rw [ss_inj hU hx h3]; exact h2
  rw [Bool.eq_iff_iff, decide_eq_true_iff, clsB_iff, key, key2]

set_option maxRecDepth 100000 in
set_option maxHeartbeats 800000 in
theorem closed_any (uo : Option Addr) (un uc : Nat) (U : List Str) (ro : Option Addr) (rn rc : Nat) (rs : List Gr) (so : Option Addr) (sn sc : Nat) (s : List Str) (w : World) (h : InU w uo un uc U ro rn rc rs) (hS : Rd w (.slice so sn sc) (ss s)) (hsn : sn ≤ 1000000) (hq : cwsE U rs s = 0) :
    Calls Try.prog 21 #[.slice uo un uc, .slice ro rn rc, .slice so sn sc] w fun e w' => e = .returned (.tuple #[.bool (clsB rs s), .int .i64 0]) ∧ Below w.heap.size w w' := by
  have h0 : chkE U rs = 0 := by unfold cwsE at hq; split at hq; assumption; assumption
  have hsl : sn = s.length := (rds_open hS).1
  have HC := hid_of (cws_good uo un uc U ro rn rc rs so sn sc s w h hS hsn hq)
  have hul := h.ul
  have hun := h.un
  have hrn := h.rn
  have HN : Hid (∀ w1 R ao cap, Cmp U rs R → CoR w.heap.size w1 (.slice ao rn cap) R → Calls Try.prog 46 #[.int .i64 un, .slice ao rn cap] w1 (NewP w.heap.size w1 un R)) := hid_of (fun w1 R ao cap hc hco => new_any w.heap.size un R ao rn cap w1 hco (by rw [hul]; exact cmp_ok (chk_ok h0).1 hc fun r hr => ((chk_ok h0).2 r hr).1) hun hrn)
  have HCL : Hid (∀ w1 w2 c R L lv, Ix U s L → Cmp U rs R → Below w.heap.size w w1 → w1.ownsRow 0 3 1 lv L.length (ints L) → NewI w.heap.size w1 c un R w2 → Calls Try.prog 47 #[.pointer (some ⟨c, 0, none⟩), lv] w2 fun e w' => e = .returned (.tuple #[]) ∧ ∃ (m : Nat) (ta : Option Addr) (tc : Nat), w'.cell? ⟨c, 5, none⟩ = some (.slice ta m tc) ∧ decide ((m : Int) = (sn : Int)) = clsB rs s ∧ Below w.heap.size w w') := hid_of (fun w1 w2 c R L lv hix hcm hb hl hni => (clo_made hni hun hl fun x hx => by rw [hul]; exact hix.lt hx).mono (by
    rintro e w' ⟨rfl, T, V, S, h1, h2, h3, h4⟩
    obtain ⟨ta, tc, htv⟩ := h1.tvs
    have c5 := h1.cell (j := 5) rfl
    rw [htv] at c5
    refine ⟨rfl, T.length, ta, tc, c5, ?_, hb.trans (h2.mono hb.size)⟩
    rw [← len_cld hq hcm hix h4 h1.nd (by rw [← hul]; exact h1.tn), hsl, hix.len]
    by_cases e : T.length = s.length
    · rw [decide_eq_true e, decide_eq_true (by omega)]
    · rw [decide_eq_false e, decide_eq_false (by omega)]))
  clear h hS h0 hq hul hrn hsl
  have huc : un ≤ 9223372036854775807 := by omega
  have hsc : sn ≤ 9223372036854775807 := by omega
  clear hun hsn
  go_enter Try.func21, Try.ntmps21
  go_wp2_with (first
    | (go_at_call 45; ((with_reducible refine (HC.out).mono ?_); (rintro e w1 ⟨R, L, ao, lo, cap, lc, rfl, h1, h2, h3, h4, h5⟩)); have C1 := hid_of h1; have C2 := hid_of h2; have C3 := hid_of h3; have C4 := hid_of h4; have B1 := hid_of h5; clear h1 h2 h3 h4 h5)
    | (go_at_call 46; ((with_reducible refine (HN.out w1 R ao cap C1.out C2.out).mono ?_); (rintro e w2 ⟨c, rfl, _, h1⟩)); have N2 := hid_of h1; clear h1)
    | (go_at_call 47; ((with_reducible refine (HCL.out w1 w2 c R L _ C3.out C1.out B1.out C4.out N2.out).mono ?_); (rintro e w3 ⟨rfl, m, ta, tc, k5, h2, h3⟩)); have D1 := hid_of h2; have D2 := hid_of h3; clear h2 h3))
  go_ret2
  exact ⟨by rw [← D1.out]; rfl, D2.out⟩
set_option maxRecDepth 100000 in
theorem close_err (uo : Option Addr) (un uc : Nat) (U : List Str) (ro : Option Addr) (rn rc : Nat) (rs : List Gr) (so : Option Addr) (sn sc : Nat) (s : List Str) (w : World) (h : InU w uo un uc U ro rn rc rs) (hS : Rd w (.slice so sn sc) (ss s)) (hsn : sn ≤ 1000000) (q : Nat) (hq : cwsE U rs s = q) (hq0 : q ≠ 0) :
    Calls Try.prog 20 #[.slice uo un uc, .slice ro rn rc, .slice so sn sc] w fun e w' => e = .returned (.tuple #[.slice none 0 0, .int .i64 (q : Int)]) ∧ Below w.heap.size w w' := by
  have HC := hid_of (cws_err uo un uc U ro rn rc rs so sn sc s w h hS hsn q hq hq0)
  have t1 : ((q : Int) != 0) = true := by simp; omega
  have t2 : ((q : Int) == 0) = false := by simp; omega
  clear h hS hq hq0
  go_enter Try.func20, Try.ntmps20
  go_wp2_with (go_at_call 45; ((with_reducible refine (HC.out).mono ?_); (rintro e w1 ⟨rfl, h5⟩)); have B1 := hid_of h5; clear h5)
  go_ret2
  exact ⟨rfl, B1.out⟩
set_option maxRecDepth 100000 in
theorem closed_err (uo : Option Addr) (un uc : Nat) (U : List Str) (ro : Option Addr) (rn rc : Nat) (rs : List Gr) (so : Option Addr) (sn sc : Nat) (s : List Str) (w : World) (h : InU w uo un uc U ro rn rc rs) (hS : Rd w (.slice so sn sc) (ss s)) (hsn : sn ≤ 1000000) (q : Nat) (hq : cwsE U rs s = q) (hq0 : q ≠ 0) :
    Calls Try.prog 21 #[.slice uo un uc, .slice ro rn rc, .slice so sn sc] w fun e w' => e = .returned (.tuple #[.bool false, .int .i64 (q : Int)]) ∧ Below w.heap.size w w' := by
  have HC := hid_of (cws_err uo un uc U ro rn rc rs so sn sc s w h hS hsn q hq hq0)
  have t1 : ((q : Int) != 0) = true := by simp; omega
  have t2 : ((q : Int) == 0) = false := by simp; omega
  clear h hS hq hq0
  go_enter Try.func21, Try.ntmps21
  go_wp2_with (go_at_call 45; ((with_reducible refine (HC.out).mono ?_); (rintro e w1 ⟨rfl, h5⟩)); have B1 := hid_of h5; clear h5)
  go_ret2
  exact ⟨rfl, B1.out⟩
end Go.Proofs.Ytedohggbpmcehaa

/- The reference's Closed. Bounds on sizes alone. -/
namespace Go.Proofs.Ytedohggbpmcehaa
open Go.RowKit

set_option maxRecDepth 100000 in
set_option maxHeartbeats 800000 in
theorem rclosed_any (ro : Option Addr) (rn rc : Nat) (rs : List Gr) (so : Option Addr) (sn sc : Nat) (s : List Str) (w : World) (hR : RuR w (.slice ro rn rc) rs) (hS : Rd w (.slice so sn sc) (ss s)) :
    Calls Try.prog 24 #[.slice ro rn rc, .slice so sn sc] w fun e w' => e = .returned (.bool (clsB rs s)) ∧ w = w' := by
  obtain ⟨hm, h4⟩ := hR.len
  obtain ⟨q, hq⟩ : ∃ q, q = clsB rs s := ⟨_, rfl⟩
  rw [← hq]
  have HQ := hid_of hq
  have HM := hid_of hm
  have HRU : Hid (∀ k, k < rn → ∃ g o a c bx r, ro = some ⟨g, o, none⟩ ∧ rs[k]? = some r ∧ w.cell? ⟨g, o + k * 2, none⟩ = some (.slice a r.1.length c) ∧ w.cell? ⟨g, o + k * 2 + 1, none⟩ = some (.string bx) ∧
      Hid (Calls Try.prog 25 #[.slice a r.1.length c, .slice so sn sc] w fun e w' => e = .returned (.bool (subB r.1 s)) ∧ w = w') ∧ Hid (Calls Try.prog 26 #[.slice so sn sc, .string bx] w fun e w' => e = .returned (.bool (decide (r.2 ∈ s))) ∧ w = w')) := hid_of (fun k hk => by
    obtain ⟨r, hr⟩ : ∃ r, rs[k]? = some r := ⟨_, List.getElem?_eq_getElem (by omega)⟩
    obtain ⟨g, o, a, c, e, c0, c1, rr⟩ := hR.get hr
    exact ⟨g, o, a, c, _, r, e, hr, c0, c1, hid_of (rsub_any a _ c r.1 so sn sc s w rr hS), hid_of (rhas_any so sn sc s r.2 w hS)⟩)
  clear hq hm hR hS
  go_enter Try.func24, Try.ntmps24
  go_wp2
  go_loop [5] (fun iv => ∃ k : Nat, k ≤ rn ∧ iv = .int .i64 k ∧ Hid (∀ r ∈ rs.take k, subB r.1 s = true → r.2 ∈ s)) (fun iv => rn - (intOf iv).toNat)
  case atStart => exact ⟨0, Nat.zero_le _, rfl, hid_of (by simp)⟩
  case round =>
    obtain ⟨k, hk, rfl, hx⟩ := hrel
    by_cases hlt : k < rn
    · have hd : decide (k < rn) = true := by simp; omega
      obtain ⟨g, o, a, c, bx, r, rfl, e1, c0, c1, HS, HH⟩ := HRU.out k hlt
      obtain ⟨pl, hpl⟩ : ∃ pl, pl = r.1.length := ⟨_, rfl⟩
      obtain ⟨b1, hb1⟩ : ∃ b, b = subB r.1 s := ⟨_, rfl⟩
      obtain ⟨b2, hb2⟩ : ∃ b, b = decide (r.2 ∈ s) := ⟨_, rfl⟩
      rw [← hpl, ← hb1] at HS
      rw [← hpl] at c0
      rw [← hb2] at HH
      have E1 := hid_of e1
      have HB1 := hid_of hb1
      have HB2 := hid_of hb2
      clear e1 hpl hb1 hb2
      have HNX : Hid ((b1 = true → b2 = true) → ∀ y ∈ rs.take (k + 1), subB y.1 s = true → y.2 ∈ s) := hid_of (fun h y hy hs => by
        rw [take_snoc_get E1.out, List.mem_append, List.mem_singleton] at hy
        rcases hy with hy | rfl
        · exact hx.out y hy hs
        · rw [← HB1.out] at hs
          exact of_decide_eq_true (HB2.out.symm.trans (h hs)))
      cases b1
      · have HN := hid_of (HNX.out (fun h => by cases h))
        clear HNX
        go_wp2_with (go_at_call 25; ((with_reducible refine (HS.out).mono ?_); (rintro ee w' ⟨rfl, rfl⟩)))
        go_round
        case rel => exact ⟨k + 1, by omega, by go_num, HN⟩
        case measure => simp [intOf]; omega
      · cases b2
        · have RF : Hid (q = false) := hid_of (by
            rw [HQ.out, Bool.eq_false_iff]; intro h
            have := clsB_iff.1 h r (List.mem_of_getElem? E1.out) (subB_iff.1 HB1.out.symm)
            exact absurd this (of_decide_eq_false HB2.out.symm))
          clear HNX
          go_wp2_with (first
            | (go_at_call 25; ((with_reducible refine (HS.out).mono ?_); (rintro ee w' ⟨rfl, rfl⟩)))
            | (go_at_call 26; ((with_reducible refine (HH.out).mono ?_); (rintro ee w' ⟨rfl, rfl⟩))))
          go_ret
          exact ⟨by rw [RF.out] <;> rfl, rfl⟩
        · have HN := hid_of (HNX.out (fun _ => rfl))
          clear HNX
          go_wp2_with (first
            | (go_at_call 25; ((with_reducible refine (HS.out).mono ?_); (rintro ee w' ⟨rfl, rfl⟩)))
            | (go_at_call 26; ((with_reducible refine (HH.out).mono ?_); (rintro ee w' ⟨rfl, rfl⟩))))
          go_round
          case rel => exact ⟨k + 1, by omega, by go_num, HN⟩
          case measure => simp [intOf]; omega
    · have hd : decide (k < rn) = false := by simp; omega
      have RF : Hid (q = true) := hid_of (by
        rw [HQ.out]
        have h := hx.out
        rw [List.take_of_length_le (by have := HM.out; omega)] at h
        exact clsB_iff.2 fun r hr hp => h r hr (subB_iff.2 hp))
      go_wp2
      go_ret
      exact ⟨by rw [RF.out] <;> rfl, rfl⟩
end Go.Proofs.Ytedohggbpmcehaa

/- The reference: sorted lists of strings; the law: equal lists. Bounds on sizes alone. -/
namespace Go.Proofs.Ytedohggbpmcehaa
open Go.RowKit

set_option maxRecDepth 100000 in
theorem rsorted_any (ao : Option Addr) (n cap : Nat) (l : List Str) (w : World) (R : Rd w (.slice ao n cap) (ss l)) :
    Calls Try.prog 43 #[.slice ao n cap] w fun e w' => e = .returned (.bool (ssB l)) ∧ Below w.heap.size w w' := by
  obtain ⟨hn, h1, h2, h3⟩ := rds_open R
  obtain ⟨r, hr⟩ : ∃ r, r = ssB l := ⟨_, rfl⟩
  rw [← hr]
  have HR := hid_of hr
  have HN := hid_of hn
  clear hr R hn
  by_cases hne : l = []
  · have RF : Hid (r = true) := hid_of (by rw [HR.out, hne]; rfl)
    obtain rfl : n = 0 := by rw [HN.out, hne]; rfl
    clear h3 HN hne
    go_enter Try.func43, Try.ntmps43
    go_wp2
    go_loopw [3] (fun iv wr => iv = .int .i64 1 ∧ w = wr) (fun iv _ => 0)
    case atStart => exact ⟨rfl, rfl⟩
    case round =>
      obtain ⟨rfl, rfl⟩ := hrel
      go_wp2
      go_ret
      exact ⟨ret_b RF.out.symm, Below.refl _ _⟩
  · obtain ⟨g, o, rfl, hg, hc⟩ := h3.resolve_left hne
    have HC := hid_of hc
    have HN1 : Hid (1 ≤ n) := hid_of (by have := HN.out; have := List.length_pos_iff.2 hne; omega)
    clear hc h3 hne
    go_enter Try.func43, Try.ntmps43
    go_wp2
    go_loopw [3] (fun iv wr => ∃ k p : Nat, p + 1 = k ∧ k ≤ n ∧ iv = .int .i64 k ∧ Hid (ssTo l k) ∧ Hid (Below w.heap.size w wr)) (fun iv _ => n - (intOf iv).toNat)
    case atStart => exact ⟨1, 0, rfl, HN1.out, rfl, hid_of (fun i hi => by omega), hid_of (Below.refl _ _)⟩
    case round =>
      obtain ⟨k, p, hpk, hk, rfl, hs, hb⟩ := hrel
      by_cases hlt : k < n
      · have hd : decide (k < n) = true := by simp; omega
        have hkl : Hid (k < l.length) := hid_of (by have := HN.out; omega)
        have hpl : Hid (p < l.length) := hid_of (by have := HN.out; omega)
        obtain ⟨bk, hbk⟩ : ∃ b, b = ba (l[k]'hkl.out) := ⟨_, rfl⟩
        obtain ⟨bp, hbp⟩ : ∃ b, b = ba (l[p]'hpl.out) := ⟨_, rfl⟩
        have c1 := (hb.out.cell (p := ⟨g, o + k, none⟩) hg).trans (HC.out k _ (List.getElem?_eq_getElem hkl.out))
        have c2 := (hb.out.cell (p := ⟨g, o + p, none⟩) hg).trans (HC.out p _ (List.getElem?_eq_getElem hpl.out))
        rw [← hbk] at c1
        rw [← hbp] at c2
        have s1 : IntKind.i64.wrap ((k : Int) - 1) = (p : Int) := by rw [IntWalk.i64_in _ (by omega)]; omega
        have b1 : (k : Int) < (n : Int) := by omega
        have b2 : (p : Int) < (n : Int) := by omega
        have b3 : (0 : Int) ≤ (k : Int) := by omega
        have b4 : (0 : Int) ≤ (p : Int) := by omega
        have HP := hid_of hpk
        clear hpk
        by_cases e : (l[p]'hpl.out) < (l[k]'hkl.out)
        · have t1 := lt_t hbp hbk e
          have HS2 := hid_of (ssTo_succ hs.out HP.out (by rw [getD_of hpl.out, getD_of hkl.out]; exact e))
          clear hbp hbk e
          go_wp2
          go_quiet (fail)
          clear s1
          go_wp2
          go_roundw
          case rel => exact ⟨k + 1, k, rfl, by omega, by go_num, HS2, hid_of (bel_drewN hb.out _)⟩
          case measure => simp [intOf]; omega
        · have t1 := lt_f hbp hbk e
          have RF : Hid (r = false) := hid_of (by rw [HR.out]; exact ssB_no HP.out hkl.out (by rw [getD_of hpl.out, getD_of hkl.out]; exact e))
          clear hbp hbk e
          go_wp2
          go_quiet (fail)
          clear s1
          go_wp2
          go_ret
          exact ⟨ret_b RF.out.symm, bel_drewN hb.out _⟩
      · have hd : decide (k < n) = false := by simp; omega
        have RF : Hid (r = true) := hid_of (by rw [HR.out]; exact ssB_yes HN.out (by rw [show n = k by omega]; exact hs.out))
        go_wp2
        go_ret
        exact ⟨ret_b RF.out.symm, hb.out⟩

set_option maxRecDepth 100000 in
theorem rsame_any (ao : Option Addr) (n cap : Nat) (bo : Option Addr) (m cap2 : Nat) (l l2 : List Str) (w : World) (R : Rd w (.slice ao n cap) (ss l)) (R2 : Rd w (.slice bo m cap2) (ss l2)) :
    Calls Try.prog 22 #[.slice ao n cap, .slice bo m cap2] w fun e w' => e = .returned (.bool (decide (l = l2))) ∧ Below w.heap.size w w' := by
  obtain ⟨hn, h1, h2, h3⟩ := rds_open R
  obtain ⟨hm, h4, h5, h6⟩ := rds_open R2
  obtain ⟨r, hr⟩ : ∃ r, r = decide (l = l2) := ⟨_, rfl⟩
  rw [← hr]
  have HR := hid_of hr
  have HN := hid_of hn
  have HM := hid_of hm
  clear hr R hn R2 hm
  by_cases hnm : n = m
  · subst hnm
    have q0 : (n != n) = false := by simp
    have q1 : ((n : Int) != (n : Int)) = false := by simp
    rcases h3 with h3 | ⟨g, o, rfl, hg, hc⟩
    · have RF : Hid (r = true) := hid_of (by
        rw [HR.out, h3]
        have : l2 = [] := List.eq_nil_of_length_eq_zero (by rw [← HM.out, HN.out, h3]; rfl)
        rw [this]; rfl)
      obtain rfl : n = 0 := by rw [HN.out, h3]; rfl
      clear h3 HN h6
      go_enter Try.func22, Try.ntmps22
      go_wp2
      go_loopw [5] (fun iv wr => iv = .int .i64 0 ∧ w = wr) (fun iv _ => 0)
      case atStart => exact ⟨rfl, rfl⟩
      case round =>
        obtain ⟨rfl, rfl⟩ := hrel
        go_wp2
        go_ret
        exact ⟨ret_b RF.out.symm, Below.refl _ _⟩
    · rcases h6 with h6 | ⟨g2, o2, rfl, hg2, hc2⟩
      · have RF : Hid (r = true) := hid_of (by
          rw [HR.out, h6]
          have : l = [] := List.eq_nil_of_length_eq_zero (by rw [← HN.out, HM.out, h6]; rfl)
          rw [this]; rfl)
        obtain rfl : n = 0 := by rw [HM.out, h6]; rfl
        clear h6 HN hc
        go_enter Try.func22, Try.ntmps22
        go_wp2
        go_loopw [5] (fun iv wr => iv = .int .i64 0 ∧ w = wr) (fun iv _ => 0)
        case atStart => exact ⟨rfl, rfl⟩
        case round =>
          obtain ⟨rfl, rfl⟩ := hrel
          go_wp2
          go_ret
          exact ⟨ret_b RF.out.symm, Below.refl _ _⟩
      · have HC := hid_of hc
        have HC2 := hid_of hc2
        clear hc hc2
        go_enter Try.func22, Try.ntmps22
        go_wp2
        go_loopw [5] (fun iv wr => ∃ k : Nat, k ≤ n ∧ iv = .int .i64 k ∧ Hid (l.take k = l2.take k) ∧ Hid (Below w.heap.size w wr)) (fun iv _ => n - (intOf iv).toNat)
        case atStart => exact ⟨0, Nat.zero_le _, rfl, hid_of (by simp), hid_of (Below.refl _ _)⟩
        case round =>
          obtain ⟨k, hk, rfl, hs, hb⟩ := hrel
          by_cases hlt : k < n
          · have hd : decide (k < n) = true := by simp; omega
            have hkl : Hid (k < l.length) := hid_of (by have := HN.out; omega)
            have hpl : Hid (k < l2.length) := hid_of (by have := HM.out; omega)
            obtain ⟨bk, hbk⟩ : ∃ b, b = ba (l[k]'hkl.out) := ⟨_, rfl⟩
            obtain ⟨bp, hbp⟩ : ∃ b, b = ba (l2[k]'hpl.out) := ⟨_, rfl⟩
            have c1 := (hb.out.cell (p := ⟨g, o + k, none⟩) hg).trans (HC.out k _ (List.getElem?_eq_getElem hkl.out))
            have c2 := (hb.out.cell (p := ⟨g2, o2 + k, none⟩) hg2).trans (HC2.out k _ (List.getElem?_eq_getElem hpl.out))
            rw [← hbk] at c1
            rw [← hbp] at c2
            have b1 : (k : Int) < (n : Int) := by omega
            have b3 : (0 : Int) ≤ (k : Int) := by omega
            by_cases e : (l[k]'hkl.out) = (l2[k]'hpl.out)
            · have t1 := eq_t hbk hbp e
              have t2 : (bk.toList != bp.toList) = false := by simp only [bne, t1]; rfl
              have HS2 : Hid (l.take (k + 1) = l2.take (k + 1)) := hid_of (by rw [take_snoc' hkl.out, take_snoc' hpl.out, hs.out, e])
              clear hbp hbk e
              go_wp2
              go_quiet (fail)
              go_wp2
              go_roundw
              case rel => exact ⟨k + 1, by omega, by go_num, HS2, hid_of (bel_drewN hb.out _)⟩
              case measure => simp [intOf]; omega
            · have t1 := eq_f hbk hbp e
              have t2 : (bk.toList != bp.toList) = true := by simp only [bne, t1]; rfl
              have RF : Hid (r = false) := hid_of (by
                rw [HR.out]
                refine decide_eq_false (fun e2 => e ?_)
                subst e2; rfl)
              clear hbp hbk e
              go_wp2
              go_quiet (fail)
              go_wp2
              go_ret
              exact ⟨ret_b RF.out.symm, bel_drewN hb.out _⟩
          · have hd : decide (k < n) = false := by simp; omega
            have RF : Hid (r = true) := hid_of (by
              rw [HR.out]
              have h := hs.out
              rw [List.take_of_length_le (by have := HN.out; omega), List.take_of_length_le (by have := HM.out; omega)] at h
              exact decide_eq_true h)
            go_wp2
            go_ret
            exact ⟨ret_b RF.out.symm, hb.out⟩
  · have q0 : (n != m) = true := by simp; omega
    have q1 : ((n : Int) != (m : Int)) = true := by simp; omega
    have RF : Hid (r = false) := hid_of (by rw [HR.out]; exact decide_eq_false (fun e => hnm (by rw [HN.out, HM.out, e])))
    go_enter Try.func22, Try.ntmps22
    go_wp2
    go_ret
    exact ⟨ret_b RF.out.symm, Below.refl _ _⟩
end Go.Proofs.Ytedohggbpmcehaa
