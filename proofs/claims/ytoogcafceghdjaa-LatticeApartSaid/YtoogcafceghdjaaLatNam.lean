/- isNamed of package lattice. Bounds on sizes alone. -/
import Derived.Test.YtoogcafceghdjaaLatCat
import Derived.Test.YtoogcafceghdjaaLatChx
namespace Go.Proofs.Ytoogcafceghdjaa
open Go.RowKit Go.Maps

theorem nodup_next {l : List Str} {i : Nat} {x : Str} (h : (l.take i).Nodup) (hx : l[i]? = some x) (hn : x ∉ l.take i) : (l.take (i + 1)).Nodup := by
  rw [take_next hx, List.nodup_append]
  refine ⟨h, by simp, fun a ha b hb => ?_⟩
  simp at hb
  subst hb
  exact fun e => hn (e ▸ ha)
theorem nodup_bad {l : List Str} {i : Nat} {x : Str} (hx : l[i]? = some x) (hn : x ∈ l.take i) : ¬ l.Nodup := by
  intro h
  have h2 : (l.take (i + 1)).Nodup := h.sublist (List.take_sublist _ _)
  rw [take_next hx, List.nodup_append] at h2
  exact h2.2.2 x hn x (by simp) rfl
theorem named_inv {t : Lat} {i : Nat} {x : Str} (hx : t.ns[i]? = some x) (h : nameB x = false) : namesB t = false := by
  unfold namesB
  have : t.ns.all nameB = false := by
    rw [Bool.eq_false_iff]; intro h2; rw [List.all_eq_true] at h2
    rw [h2 x (List.mem_of_getElem? hx)] at h; cases h
  rw [this, Bool.false_and, Bool.false_and]
theorem named_dup {t : Lat} {i : Nat} {x : Str} (hx : t.ns[i]? = some x) (hn : x ∈ t.ns.take i) : namesB t = false := by
  unfold namesB
  rw [decide_eq_false (nodup_bad hx hn), Bool.and_false, Bool.false_and]
theorem named_end {t : Lat} {n : Nat} (hn : n = t.ns.length) (h : ∀ x ∈ t.ns.take n, nameB x = true) (h2 : (t.ns.take n).Nodup) : namesB t = (decide (t.k = 6) || ssB t.ns) := by
  subst hn
  rw [List.take_length] at h h2
  unfold namesB
  rw [List.all_eq_true.2 h, decide_eq_true h2, Bool.true_and, Bool.true_and]
theorem box_in {w w' : World} {o : Obj} {S : Nat → Prop} {cs : List Value} {E : TypeId} {m : Nat × Nat} (h : Kept S ((w.alloc (.cells cs.toArray E m)).alloc o) w') (hS : ¬ S w.heap.size) {j : Nat} {u : Value} (hu : cs[j]? = some u) : w'.cell? ⟨w.heap.size, j, none⟩ = some u := by
  have hb := (h.block w.heap.size (by simp; omega) hS).trans (two_new w (.cells cs.toArray E m) o).1
  have := World.news_of_block hb j u (by simpa using hu)
  rw [Addr.add_mid, Nat.zero_add] at this
  exact this
set_option maxRecDepth 100000 in
set_option maxHeartbeats 3200000 in
theorem named_any (t : Lat) (k lo hi : Int) (an : Option Addr) (nn cn : Nat) (ap : Option Addr) (np cp : Nat) (ar : Option Addr) (nr cr : Nat) (w : World) (H : LO w k lo hi an nn cn ap np cp ar nr cr t) (hnn : nn ≤ 1000000) : Calls Try.prog 65 #[.agg #[.int .i64 k, .int .i64 lo, .int .i64 hi, .slice an nn cn, .slice ap np cp, .slice ar nr cr]] w (BoP (namesB t) w) := by
  obtain ⟨r, hr⟩ : ∃ r, r = namesB t := ⟨_, rfl⟩
  rw [← hr]
  have HR := hid_of hr
  have HH := hid_of H
  have HN := hid_of H.ln
  have HRD := hid_of (rds_open H.n)
  have hmm := @run_makeMap Try.prog
  have HK : Hid (k = t.k) := hid_of H.hk
  have HM0 : Hid (MapS ((w.alloc (.cells #[.int .i64 k, .int .i64 lo, .int .i64 hi, .slice an nn cn, .slice ap np cp, .slice ar nr cr] 26)).alloc (.map #[] 0)) (w.heap.size + 1) 0 []) := hid_of (by have := mapS_made (w.alloc (.cells #[.int .i64 k, .int .i64 lo, .int .i64 hi, .slice an nn cn, .slice ap np cp, .slice ar nr cr] 26)); rwa [show (w.alloc (.cells #[.int .i64 k, .int .i64 lo, .int .i64 hi, .slice an nn cn, .slice ap np cp, .slice ar nr cr] 26)).heap.size = w.heap.size + 1 by simp] at this)
  have HBX : Hid (∀ w', Kept (fun k => k = w.heap.size + 1) ((w.alloc (.cells #[.int .i64 k, .int .i64 lo, .int .i64 hi, .slice an nn cn, .slice ap np cp, .slice ar nr cr] 26)).alloc (.map #[] 0)) w' → Below w.heap.size w w' ∧ w'.cell? ⟨w.heap.size, 0, none⟩ = some (.int .i64 k) ∧ w'.cell? ⟨w.heap.size, 3, none⟩ = some (.slice an nn cn)) := hid_of (fun w' h =>
    ⟨(((Below.refl w.heap.size w).alloc (Nat.le_refl _) _).alloc (by simp) _).trans (h.below (by simp; omega) (fun k hk => by omega)), box_in (cs := [.int .i64 k, .int .i64 lo, .int .i64 hi, .slice an nn cn, .slice ap np cp, .slice ar nr cr]) h (by omega) rfl, box_in (cs := [.int .i64 k, .int .i64 lo, .int .i64 hi, .slice an nn cn, .slice ap np cp, .slice ar nr cr]) h (by omega) rfl⟩)
  obtain ⟨W1, hW1⟩ : ∃ W1, W1 = ((w.alloc (.cells #[.int .i64 k, .int .i64 lo, .int .i64 hi, .slice an nn cn, .slice ap np cp, .slice ar nr cr] 26)).alloc (.map #[] 0)) := ⟨_, rfl⟩
  rw [← hW1] at HM0 HBX
  have HW1 := hid_of hW1
  clear hr H
  go_enter Try.func65, Try.ntmps65
  clear hW1
  go_wp2
  clear hmm
  go_loopw [5, 10] (fun sv iv wr => ∃ (i : Nat) (v : Value), sv = v ∧ iv = .int .i64 i ∧ i ≤ nn ∧ Hid (MapS wr (w.heap.size + 1) i (t.ns.take i)) ∧ Hid (Kept (fun k => k = w.heap.size + 1) W1 wr) ∧ Hid ((∀ x ∈ t.ns.take i, nameB x = true) ∧ (t.ns.take i).Nodup)) (fun _ iv _ => nn - (intOf iv).toNat)
  case atStart => exact ⟨0, _, rfl, rfl, Nat.zero_le _, hid_of (by rw [← HW1.out]; exact HM0.out), hid_of (by rw [← HW1.out]; exact Kept.refl _ _), hid_of ⟨by simp, by simp⟩⟩
  case round =>
    obtain ⟨i, v, rfl, rfl, hi, hm, hk, hq⟩ := hrel
    have BX := hid_of (HBX.out wr hk.out)
    by_cases hlt : i < nn
    · have d1 : decide (i < nn) = true := decide_eq_true hlt
      have hlt' : (i : Int) < (nn : Int) := by omega
      have HLT := hid_of hlt
      have hl : i < t.ns.length := by have := HN.out; omega
      rcases HRD.out.2.2.2 with h3 | ⟨g, o, rfl, hg, hc⟩
      · exfalso; rw [h3] at hl; simp at hl
      obtain ⟨x, hx⟩ : ∃ x, t.ns[i]? = some x := ⟨_, List.getElem?_eq_getElem hl⟩
      have c1 := (BX.out.1.cell (p := ⟨g, o + i, none⟩) hg).trans (hc i _ hx)
      have HX := hid_of hx
      have hxl : x.length ≤ 9223372036854775807 := HH.out.on x (List.mem_of_getElem? hx)
      have HXL := hid_of hxl
      have VC : Hid (∀ w, Calls Try.prog 80 #[.string (ba x)] w fun ee w' => ee = .returned (.bool (nameB x)) ∧ w = w') := hid_of (fun w => (valid_any (ba x) w (by unfold maxLen; show x.toArray.size ≤ _; simpa using hxl)).mono fun _ _ h => ⟨h.1, h.2.symm⟩)
      obtain ⟨q, hqn⟩ : ∃ q, q = nameB x := ⟨_, rfl⟩
      rw [← hqn] at VC
      have HQ := hid_of hqn
      obtain ⟨bx, hbx⟩ : ∃ bx, bx = ba x := ⟨_, rfl⟩
      have HBX2 := hid_of hbx
      have hlk := hm.out.look x hxl
      rw [← hbx] at VC c1 hlk
      clear hlt hc hx hxl hqn hbx hl
      cases q
      · have RF : Hid (false = r) := hid_of (by rw [HR.out, named_inv HX.out HQ.out.symm])
        clear hlk
        go_wp2_with (go_at_call 80; ((with_reducible refine (VC.out _).mono ?_); (rintro e w2 ⟨rfl, rfl⟩)))
        go_ret
        exact ⟨ret_b RF.out, BX.out.1⟩
      · by_cases hin : x ∈ t.ns.take i
        · have RF : Hid (false = r) := hid_of (by rw [HR.out, named_dup HX.out hin])
          rw [decide_eq_true hin] at hlk
          clear hin
          go_wp2_with (go_at_call 80; ((with_reducible refine (VC.out _).mono ?_); (rintro e w2 ⟨rfl, rfl⟩)))
          go_ret
          exact ⟨ret_b RF.out, BX.out.1⟩
        · rw [decide_eq_false hin] at hlk
          have HIN := hid_of hin
          clear hin
          have hi9 : Hid (i < 9223372036854775807) := hid_of (by omega)
          go_wp2_with (first
            | (at_mapUpdate; ((refine wpList_put rfl _ _ _ rfl (w.heap.size + 1) i (t.ns.take i) x rfl (by rw [← HBX2.out]; rfl) rfl hm.out hi9.out HXL.out ?_); intro w2 hm2 hg2; have M2 := hid_of hm2; have G2 := hid_of hg2; clear hm2 hg2))
            | (go_at_call 80; ((with_reducible refine (VC.out _).mono ?_); (rintro e w2 ⟨rfl, rfl⟩))))
          go_roundw
          case rel =>
            refine ⟨i + 1, _, rfl, by go_num, HLT.out, hid_of (by rw [take_next HX.out]; exact M2.out), hid_of (hk.out.trans ⟨G2.out.os, G2.out.tape, G2.out.output, G2.out.size, fun k hk2 hn => G2.out.block k hk2 (fun e => hn (by cases e; rfl))⟩), hid_of ⟨fun y hy => ?_, nodup_next hq.out.2 HX.out HIN.out⟩⟩
            rw [take_next HX.out, List.mem_append, List.mem_singleton] at hy
            rcases hy with hy | rfl
            · exact hq.out.1 y hy
            · exact HQ.out.symm
          case measure => have := HLT.out; simp [intOf]; omega
    · have d1 : decide (i < nn) = false := decide_eq_false hlt
      have HI : Hid (i = nn) := hid_of (by omega)
      have b0 := BX.out.2.1
      have b3 := BX.out.2.2
      have RE : Hid (r = (decide (t.k = 6) || ssB t.ns)) := hid_of (by rw [HR.out]; exact named_end HN.out (by rw [← HI.out]; exact hq.out.1) (by rw [← HI.out]; exact hq.out.2))
      by_cases h6 : k = 6
      · subst h6
        have RT : Hid (true = r) := hid_of (by rw [RE.out, decide_eq_true HK.out.symm]; rfl)
        clear hlt
        go_wp2
        go_ret
        exact ⟨ret_b RT.out, BX.out.1⟩
      · have e6 : (k == 6) = false := beq_eq_false_iff_ne.2 h6
        have RT : Hid (ssB t.ns = r) := hid_of (by rw [RE.out, decide_eq_false (by rw [← HK.out]; exact h6)]; rfl)
        have SC := hid_of (sorted_any an nn cn t.ns wr (HH.out.n.at BX.out.1))
        rw [RT.out] at SC
        clear hlt h6
        go_wp2_with (go_at_call 81; ((with_reducible refine (SC.out).mono ?_); (rintro e w2 ⟨rfl, h2⟩)); (have H2 := hid_of h2); clear h2)
        go_ret
        exact ⟨rfl, BX.out.1.trans (H2.out.mono BX.out.1.size)⟩
end Go.Proofs.Ytoogcafceghdjaa
