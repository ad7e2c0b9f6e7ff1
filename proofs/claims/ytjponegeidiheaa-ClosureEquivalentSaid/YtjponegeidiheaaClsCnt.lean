/- count: the next name of the trail is counted; the rules that lack nothing any more are applied. Bounds on sizes alone. -/
import Derived.Test.YtjponegeidiheaaClsMet
import Derived.Deep.QuietTactic
import Derived.BigQuiet
namespace Go.Proofs.Ytjponegeidiheaa
open Go.RowKit

def orB (S : Nat → Prop) (ob : Nat) : Nat → Prop := fun g => S g ∨ g = ob
theorem chg_or {S S' : Nat → Prop} {w w' : World} (ob : Nat) (h : Chg S S' w w') : Chg (orB S ob) (orB S' ob) w w' :=
  ⟨⟨h.kept.os, h.kept.tape, h.kept.output, h.kept.size, fun k hk hs => h.kept.block k hk (fun h2 => hs (.inl h2))⟩, fun k hk => by
    rcases hk with hk | hk
    · rcases h.sub k hk with h2 | h2
      · exact .inl (.inl h2)
      · exact .inr h2
    · exact .inl (.inr hk)⟩
theorem chg_ob (S : Nat → Prop) (w : World) (ob : Nat) (v : Value) : Chg (orB S ob) (orB S ob) w (w.setCell ⟨ob, 0, none⟩ v) := chg_set (S := orB S ob) (.inr rfl)
/-- A round of count: j rules have been looked at. -/
def CntI (w : World) (c n : Nat) (R : List Hrl) (off : Nat → Nat) (fl : Nat) (S0 : Nat → Prop) (T0 T : List Nat) (k a : Nat) (V : CV) (S : Nat → Prop) (ob : Nat) (ok : Bool) (j : Nat) (wr : World) : Prop :=
  ∃ Tj tv Sj okj, CH wr c n R (mixL R off (usesF R a) j (T.take k) (T.take k ++ [a])) (memB Tj) Tj (k + 1) { V with tv := tv } Sj ∧ Chg (orB S ob) (orB Sj ob) w wr ∧ wr.heap[ob]? = some (.cells #[.bool okj] 4 (0, 0)) ∧
    GI R off n fl S0 T0 Tj (k + 1) okj (fun i => i ∈ usesF R a → i ∈ (usesF R a).take j) ∧ ¬ Sj ob ∧ (okj = true → ok = true) ∧ ∃ U, Tj = T ++ U
def CntP (w : World) (c n : Nat) (R : List Hrl) (off : Nat → Nat) (fl : Nat) (S0 : Nat → Prop) (T0 T : List Nat) (k : Nat) (V : CV) (S : Nat → Prop) (ob : Nat) (ok : Bool) (e : Ending) (w' : World) : Prop :=
  e = .returned (.tuple #[]) ∧ ∃ T' tv S' ok', CH w' c n R (lackR R off (T'.take (k + 1))) (memB T') T' (k + 1) { V with tv := tv } S' ∧ Chg (orB S ob) (orB S' ob) w w' ∧ w'.heap[ob]? = some (.cells #[.bool ok'] 4 (0, 0)) ∧
    GI R off n fl S0 T0 T' (k + 1) ok' (fun _ => True) ∧ ¬ S' ob ∧ (ok' = true → ok = true) ∧ ∃ U, T' = T ++ U

set_option maxRecDepth 100000 in
set_option maxHeartbeats 1600000 in
theorem cnt_any (c n fl k a cb fb ob : Nat) (R : List Hrl) (off : Nat → Nat) (S0 : Nat → Prop) (T0 T : List Nat) (V : CV) (S : Nat → Prop) (ok : Bool) (w : World) (h : CH w c n R (lackR R off (T.take k)) (memB T) T k V S) (ha : T[k]? = some a)
    (hg : GI R off n fl S0 T0 T k ok (fun _ => True))
    (h1 : w.heap[cb]? = some (.cells #[.pointer (some ⟨c, 0, none⟩)] 76 (0, 0))) (h2 : w.heap[fb]? = some (.cells #[.int .i64 fl] 3 (0, 0))) (h3 : w.heap[ob]? = some (.cells #[.bool ok] 4 (0, 0)))
    (s1 : ¬ S cb) (s2 : ¬ S fb) (s3 : ¬ S ob) (hne : cb ≠ ob ∧ fb ≠ ob) (hob : ∀ (i : Nat) (v : Value), V.ar[i]? = some v → ∀ g, v.ownBlock = some g → g ≠ ob) (hfl : fl ≤ 1000000) (hn : n ≤ 1000000) (hR : ∀ i, off i ≤ 1) :
    Calls Try.prog 79 #[.pointer (some ⟨c, 0, none⟩), .func (.func 87) #[] #[.pointer (some ⟨cb, 0, none⟩), .pointer (some ⟨fb, 0, none⟩), .pointer (some ⟨ob, 0, none⟩)]] w (CntP w c n R off fl S0 T0 T k V S ob ok) := by
  have hkT : k < T.length := (List.getElem?_eq_some_iff.1 ha).1
  have haN : a < n := h.tn a (List.mem_of_getElem? ha)
  have hTn := h.len
  obtain ⟨ta, tc, htv⟩ := h.tvs
  have htr := h.tr
  rw [htv] at htr
  obtain ⟨gt, rfl⟩ : ∃ g, ta = some ⟨g, 0, none⟩ := by
    rcases htr.2 with ⟨h5, h6⟩ | ⟨g, _, _, h5, _⟩
    · omega
    · simp only [Value.slice.injEq] at h5; exact ⟨g, h5.1⟩
  have HD : Hid (∀ q, CH (w.drewN q) c n R (lackR R off (T.take k)) (memB T) T k V S ∧ Below w.heap.size w (w.drewN q)) := hid_of (fun q => ⟨h.at (bel_drewN (Below.refl _ _) q), bel_drewN (Below.refl _ _) q⟩)
  have c5 := h.cell (j := 5) rfl
  have c6 := h.cell (j := 6) rfl
  rw [htv] at c5
  have cT := own_cell htr (ints_get ha)
  obtain ⟨uv, huv⟩ : ∃ uv, V.ur[a]? = some uv := ⟨_, List.getElem?_eq_getElem (by rw [h.ul]; exact haN)⟩
  obtain ⟨uo, uc, huv2⟩ := own_shape (h.us a uv huv)
  subst huv2
  obtain ⟨m, hm⟩ : ∃ m, m = (usesF R a).length := ⟨_, rfl⟩
  have HUV := hid_of huv
  have HM := hid_of hm
  have hmc : m ≤ 9223372036854775807 := by
    rcases own_shape2 (h.us a _ huv) with ⟨_, h6⟩ | ⟨_, _, h5, _, h6, h7⟩
    · omega
    · omega
  rw [← hm] at huv
  have HST : Hid (∀ q, CntI w c n R off fl S0 T0 T k a V S ob ok 0 ((w.drewN q).setCell ⟨c, 6, none⟩ (.int .i64 ((k : Int) + 1)))) := hid_of (fun q => by
    obtain ⟨q1, q2⟩ := HD.out q
    have q3 := q1.setCount (k + 1)
    have q4 : Chg S S w ((w.drewN q).setCell ⟨c, 6, none⟩ (.int .i64 ((k : Int) + 1))) := (Chg.ofBelow q2).trans (chg_set h.sc)
    exact ⟨T, V.tv, S, ok, q3.conv (fun i _ => (mixL_zero _ _ _ _ _ _).symm) (fun _ _ => rfl), chg_or ob q4, q4.blk h3 s3, hg.next ha, s3, id, [], by simp⟩)
  have HEND : Hid (∀ wr, CntI w c n R off fl S0 T0 T k a V S ob ok m wr → CntP w c n R off fl S0 T0 T k V S ob ok (.returned (.tuple #[])) wr) := hid_of (fun wr hi => by
    obtain ⟨Tj, tv, Sj, okj, q1, q2, q3, q4, q5, q6, U, rfl⟩ := hi
    have e1 : (T ++ U).take (k + 1) = T.take k ++ [a] := by rw [List.take_append_of_le_length (by omega), take_snoc_get ha]
    refine ⟨rfl, T ++ U, tv, Sj, okj, ?_, q2, q3, ?_, q5, q6, U, rfl⟩
    · rw [e1]; exact q1.conv (fun i hi => by rw [hm]; exact mixL_end hi) (fun _ _ => rfl)
    · rw [hm] at q4; exact q4.all)
  have HRD : Hid (∀ j wr, CntI w c n R off fl S0 T0 T k a V S ob ok j wr → j < m → ∃ r x gr go gl lc mR : Nat, wr.cell? ⟨c, 3, none⟩ = some (.slice (some ⟨gl, 0, none⟩) mR lc) ∧ wr.cell? ⟨gr, go + j, none⟩ = some (.int .i64 (r : Int)) ∧ uo = some ⟨gr, go, none⟩ ∧ r < mR ∧ mR ≤ 9223372036854775807 ∧
      wr.cell? ⟨gl, r, none⟩ = some (.int .i64 ((x : Int) + 1)) ∧ wr.frozen? ⟨gl, r, none⟩ = false ∧ x ≤ 2000000 ∧
      (wr.setCell ⟨gl, r, none⟩ (.int .i64 (x : Int))).cell? ⟨c, 3, none⟩ = some (.slice (some ⟨gl, 0, none⟩) mR lc) ∧ (wr.setCell ⟨gl, r, none⟩ (.int .i64 (x : Int))).cell? ⟨gl, r, none⟩ = some (.int .i64 (x : Int)) ∧
      (x ≠ 0 → CntI w c n R off fl S0 T0 T k a V S ob ok (j + 1) (wr.setCell ⟨gl, r, none⟩ (.int .i64 (x : Int)))) ∧
      (x = 0 → Calls Try.prog 87 #[.int .i64 r, .pointer (some ⟨cb, 0, none⟩), .pointer (some ⟨fb, 0, none⟩), .pointer (some ⟨ob, 0, none⟩)] (wr.setCell ⟨gl, r, none⟩ (.int .i64 (x : Int))) fun e w' => e = .returned (.tuple #[]) ∧ CntI w c n R off fl S0 T0 T k a V S ob ok (j + 1) w')) := hid_of (fun j wr hi hj => by
    obtain ⟨Tj, tv, Sj, okj, q1, q2, q3, q4, q5, q6, U, hU⟩ := hi
    obtain ⟨r, hr⟩ : ∃ r, (usesF R a)[j]? = some r := ⟨_, List.getElem?_eq_getElem (by omega)⟩
    have hrm : r ∈ usesF R a := List.mem_of_getElem? hr
    have hrR : r < R.length := (mem_usesF.1 hrm).1
    obtain ⟨lo, lc, hlv⟩ := own_shape q1.la
    have hlo := q1.la
    rw [hlv] at hlo
    obtain ⟨gl, rfl⟩ : ∃ g, lo = some ⟨g, 0, none⟩ := by
      rcases hlo.2 with ⟨_, h6⟩ | ⟨g, _, _, h5, _⟩
      · omega
      · simp only [Value.slice.injEq] at h5; exact ⟨g, h5.1⟩
    have hus := q1.us a _ HUV.out
    obtain ⟨gr, rfl⟩ : ∃ g, uo = some ⟨g, 0, none⟩ := by
      rcases hus.2 with ⟨_, h6⟩ | ⟨g, _, _, h5, _⟩
      · omega
      · simp only [Value.slice.injEq] at h5; exact ⟨g, h5.1⟩
    have hCa : a ∉ T.take k := not_take h.nd ha
    have hx1 : mixL R off (usesF R a) j (T.take k) (T.take k ++ [a]) r = lackR R off (T.take k ++ [a]) r + 1 := by
      rw [mixL_at (usesF_nodup R a) hr, lackR_step hCa hrm (h.pn r hrR).1]
    have hxb : lackR R off (T.take k ++ [a]) r ≤ 2000000 := by
      have p1 := lackF_le (prem R r) (T.take k ++ [a])
      have p2 := nodup_bound n (prem R r) (h.pn r hrR).1 (h.pn r hrR).2
      have p3 := hR r
      unfold lackR
      omega
    have hlen : R.length ≤ 9223372036854775807 := by
      rcases own_shape2 hlo with ⟨h5, _⟩ | ⟨_, _, h5, _, h6, h7⟩
      · cases h5
      · omega
    have hch := (q1.setLack (i := r) (x := lackR R off (T.take k ++ [a]) r) hlv).conv (fun i _ => mixL_next hr i) (fun _ _ => rfl)
    have hcs : Chg Sj Sj wr (wr.setCell ⟨gl, r, none⟩ (.int .i64 (lackR R off (T.take k ++ [a]) r : Int))) := chg_set (q1.sl gl (by rw [hlv]; rfl))
    have hsj : ∀ b, ¬ S b → b < w.heap.size → ¬ Sj b ∨ b = ob := fun b hb hbw => by
      by_cases e : b = ob
      · exact .inr e
      refine .inl fun h5 => ?_
      rcases q2.sub b (.inl h5) with h6 | h6
      · rcases h6 with h6 | h6
        · exact hb h6
        · exact e h6
      · omega
    have hobS : ¬ Sj ob := q5
    have hCt : Tj.take (k + 1) = T.take k ++ [a] := by rw [hU, List.take_append_of_le_length (by omega), take_snoc_get ha]
    have hlk : (wr.setCell ⟨gl, r, none⟩ (.int .i64 (lackR R off (T.take k ++ [a]) r : Int))).cell? ⟨gl, r, none⟩ = some (.int .i64 (lackR R off (T.take k ++ [a]) r : Int)) := by
      have := hch.la
      rw [hlv] at this
      have e := own_cell this (lks_get _ hrR)
      rw [e, ← mixL_next hr r, if_pos rfl]
    refine ⟨r, lackR R off (T.take k ++ [a]) r, gr, 0, gl, lc, R.length, ?_, ?_, rfl, hrR, hlen, ?_, own_free hlo r, hxb, ?_, hlk, fun hx => ?_, fun hx => ?_⟩
    · have := q1.cell (j := 3) rfl
      rw [hlv] at this; exact this
    · rw [Nat.zero_add]; exact own_cell hus (ints_get hr)
    · have := own_cell hlo (lks_get _ hrR)
      rw [hx1] at this; exact this
    · have := hch.cell (j := 3) rfl
      rw [hlv] at this; exact this
    · exact ⟨Tj, tv, Sj, okj, hch, q2.trans (chg_or ob hcs), hcs.blk q3 hobS, q4.skip hr (by rw [hCt]; exact hx), hobS, q6, U, hU⟩
    · have b1 : (wr.setCell ⟨gl, r, none⟩ (.int .i64 (lackR R off (T.take k ++ [a]) r : Int))).heap[cb]? = some (.cells #[.pointer (some ⟨c, 0, none⟩)] 76 (0, 0)) :=
        hcs.blk (q2.blk h1 (fun h5 => by rcases h5 with h5 | h5; exact s1 h5; exact hne.1 h5)) (by rcases hsj cb s1 (lt_of_block h1) with h5 | h5; exact h5; exact absurd h5 hne.1)
      have b2 : (wr.setCell ⟨gl, r, none⟩ (.int .i64 (lackR R off (T.take k ++ [a]) r : Int))).heap[fb]? = some (.cells #[.int .i64 fl] 3 (0, 0)) :=
        hcs.blk (q2.blk h2 (fun h5 => by rcases h5 with h5 | h5; exact s2 h5; exact hne.2 h5)) (by rcases hsj fb s2 (lt_of_block h2) with h5 | h5; exact h5; exact absurd h5 hne.2)
      have s1' : ¬ Sj cb := by rcases hsj cb s1 (lt_of_block h1) with h5 | h5; exact h5; exact absurd h5 hne.1
      have s2' : ¬ Sj fb := by rcases hsj fb s2 (lt_of_block h2) with h5 | h5; exact h5; exact absurd h5 hne.2
      refine (met_any c n fl (k + 1) r cb fb ob R _ Tj _ Sj okj _ hch hrR b1 b2 (hcs.blk q3 hobS) s1' s2' hobS hfl hn).mono ?_
      rintro e w' ⟨tv2, S2, w1, rfl, rfl, p1, p2⟩
      have hob2 : ¬ S2 ob := fun h5 => by
        rcases p2.sub ob h5 with h6 | h6
        · exact hobS h6
        · have := lt_of_block (hcs.blk q3 hobS); omega
      refine ⟨rfl, (putF fl (conc R r) Tj).1, tv2, S2, ((putF fl (conc R r) Tj).2 && okj), p1.chg (chg_set (S := fun g => g = ob) (b := ob) rfl) (fun g hg2 e => hob2 (e ▸ hg2)) hob, ?_, ?_, q4.fire hr hrR (by rw [hCt]; exact hx) (fun x hx2 => h.rn r x hrR hx2), hob2, fun h5 => q6 (by rw [Bool.and_eq_true] at h5; exact h5.2), ?_⟩
      · exact ((q2.trans (chg_or ob hcs)).trans (chg_or ob p2)).trans (chg_ob S2 w1 ob _)
      · exact blk_setCell (cur := [.bool okj]) (k := 0) (p2.blk (hcs.blk q3 hobS) hobS)
      · obtain ⟨U2, e2, _⟩ := putF_pre fl (conc R r) Tj
        exact ⟨U ++ U2, by rw [e2, hU, List.append_assoc]⟩)
  have HCZ : Hid (∀ q, ((w.drewN q).cell? ⟨c, 6, none⟩ = some (.int .i64 (k : Int)) ∧ (w.drewN q).frozen? ⟨c, 6, none⟩ = false) ∧ ((w.drewN q).setCell ⟨c, 6, none⟩ (.int .i64 ((k : Int) + 1))).cell? ⟨c, 1, none⟩ = some (.slice (some ⟨V.gu, 0, none⟩) n n) ∧ ((w.drewN q).setCell ⟨c, 6, none⟩ (.int .i64 ((k : Int) + 1))).cell? ⟨V.gu, a, none⟩ = some (.slice uo m uc)) := hid_of (fun q => by
    obtain ⟨q1, q2⟩ := HD.out q
    have q3 := q1.setCount (k + 1)
    refine ⟨⟨q1.cell (j := 6) rfl, q1.free 6⟩, q3.cell (j := 1) rfl, ?_⟩
    rw [hm]
    exact blk_cell q3.uu HUV.out)
  clear h ha hg h1 h2 h3 s1 s2 s3 hne hob hR hfl HD HM HUV hm huv htv htr
  have hk1 : k ≤ 1000000 := by omega
  have hnn : n ≤ 9223372036854775807 := by omega
  go_enter Try.func79, Try.ntmps79
  go_wp2
  go_quiet (fail)
  have HZ := hid_of (HCZ.out nq)
  have HS2 := hid_of (HST.out nq)
  have z1 := HZ.out.1.1
  have z2 := HZ.out.1.2
  have z3 := HZ.out.2.1
  have z4 := HZ.out.2.2
  clear HCZ HST c5 c6 cT
  generalize w.drewN nq = wz at *
  go_wp2
  by_cases h0 : 0 < m
  · go_loopw [6, 32] (fun xv iv wr => ∃ (j : Nat) (v : Value), xv = v ∧ j ≤ m ∧ iv = .int .i64 j ∧ Hid (CntI w c n R off fl S0 T0 T k a V S ob ok j wr)) (fun _ iv _ => m - (intOf iv).toNat)
    case atStart => exact ⟨0, _, rfl, Nat.zero_le _, rfl, hid_of HS2.out⟩
    case round =>
      obtain ⟨j, v, rfl, hj, rfl, hi⟩ := hrel
      by_cases hlt : j < m
      · have hd : decide (j < m) = true := by simp; omega
        obtain ⟨r, x, gr, go, gl, lc, mR, e1, e2, rfl, e4, e5, e6, e7, e8, e9, e10, e11, e12⟩ := HRD.out j wr hi.out hlt
        have HA := hid_of e11
        have HB := hid_of e12
        clear e11 e12 hi
        by_cases hx0 : x = 0
        · have t0 : ((x : Int) == 0) = true := by simp [hx0]
          have HC := hid_of (HB.out hx0)
          clear hx0
          go_wp2_with (go_at_call 87; ((with_reducible refine (HC.out).mono ?_); (rintro e w1 ⟨rfl, h5⟩)); have HH := hid_of h5; clear h5)
          go_roundw
          case rel => exact ⟨j + 1, _, rfl, by omega, by go_num, HH⟩
          case measure => simp [intOf]; omega
        · have t0 : ((x : Int) == 0) = false := by simp [hx0]
          have HC := hid_of (HA.out hx0)
          clear hx0
          go_wp2
          go_roundw
          case rel => exact ⟨j + 1, _, rfl, by omega, by go_num, HC⟩
          case measure => simp [intOf]; omega
      · have hd : decide (j < m) = false := by simp; omega
        obtain rfl : j = m := by omega
        have HE := hid_of (HEND.out _ hi.out)
        go_wp2
        go_end0
        exact HE.out
  · obtain rfl : m = 0 := by omega
    have HE := hid_of (HEND.out _ HS2.out)
    go_loop [6, 32] (fun sv iv => ∃ v : Value, sv = v ∧ iv = .int .i64 0) (fun _ iv => 0)
    case atStart => exact ⟨_, rfl, rfl⟩
    case round =>
      obtain ⟨v, rfl, rfl⟩ := hrel
      go_wp2
      go_end0
      exact HE.out
end Go.Proofs.Ytjponegeidiheaa
