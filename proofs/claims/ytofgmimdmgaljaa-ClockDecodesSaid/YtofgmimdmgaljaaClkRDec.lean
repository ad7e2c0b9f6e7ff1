/- The reference's Decode and Encode. Bounds on sizes. -/
import Derived.Test.YtofgmimdmgaljaaClkRead
import Derived.Test.YtofgmimdmgaljaaClkRCmp
import Derived.Test.YtofgmimdmgaljaaClkEncW
namespace Go.Proofs.Ytofgmimdmgaljaa
open Go.RowKit

/-- read, its result as an argument. -/
theorem read_ok {ao : Option Addr} {n cap : Nat} {d : List Int} {a p j : Nat} {w : World} (h : BR w (.slice ao n cap) d) (hr : ∀ y ∈ d, 0 ≤ y ∧ y ≤ 255) (hn : n ≤ 1000000) (ha : a ≤ n) (e : rd8 (d.drop a) = some (p, j)) :
    Calls Try.prog 46 #[.slice ao n cap, .int .i64 a] w fun e w' => e = .returned (.tuple #[.int .u64 p, .int .i64 ((a + j : Nat) : Int)]) ∧ Below w.heap.size w w' := by
  have := rread_any ao n cap d a w h hr hn ha
  rw [e] at this
  exact this
theorem read_no {ao : Option Addr} {n cap : Nat} {d : List Int} {a : Nat} {w : World} (h : BR w (.slice ao n cap) d) (hr : ∀ y ∈ d, 0 ≤ y ∧ y ≤ 255) (hn : n ≤ 1000000) (ha : a ≤ n) (e : rd8 (d.drop a) = none) :
    Calls Try.prog 46 #[.slice ao n cap, .int .i64 a] w fun e w' => e = .returned (.tuple #[.int .u64 0, .int .i64 (-1)]) ∧ Below w.heap.size w w' := by
  have := rread_any ao n cap d a w h hr hn ha
  rw [e] at this
  exact this

set_option maxRecDepth 100000 in
set_option maxHeartbeats 3200000 in
theorem rdecode_any (ao : Option Addr) (n cap : Nat) (d : List Int) (w : World) (h : BR w (.slice ao n cap) d) (hr : ∀ y ∈ d, 0 ≤ y ∧ y ≤ 255) (hn : n ≤ 1000000) :
    Calls Try.prog 31 #[.slice ao n cap] w fun e w' => DRes w (dcd d) e w' := by
  rw [← rdcd_eq hr]
  obtain ⟨R, hR⟩ : ∃ R, R = rdcd d := ⟨_, rfl⟩
  rw [← hR]
  have HD := hid_of h
  have HRR := hid_of hr
  have HN : Hid (d.length = n) := hid_of h.len.1
  have hl := h.len.2
  cases h8 : rd8 d with
  | none =>
    have HE : Hid (R = none) := hid_of (by rw [hR]; unfold rdcd; rw [h8])
    have R0 : Hid (Calls Try.prog 46 #[.slice ao n cap, .int .i64 0] w fun e w' => e = .returned (.tuple #[.int .u64 0, .int .i64 (-1)]) ∧ Below w.heap.size w w') := hid_of (read_no (a := 0) h hr hn (Nat.zero_le _) h8)
    clear h hr hR h8
    go_enter Try.func31, Try.ntmps31
    go_wp2_with (go_at_call 46; ((with_reducible refine R0.out.mono ?_); (rintro e w1 ⟨rfl, h1⟩; have HB1 := hid_of h1; clear h1)))
    go_ret2
    exact dres_none HE.out HB1.out
  | some x =>
    obtain ⟨cnt, j0⟩ := x
    have hb0 := rd8_bound hr (Nat.zero_le _) (show rd8 (d.drop 0) = some (cnt, j0) from h8)
    have R0 : Hid (Calls Try.prog 46 #[.slice ao n cap, .int .i64 0] w fun e w' => e = .returned (.tuple #[.int .u64 cnt, .int .i64 j0]) ∧ Below w.heap.size w w') := hid_of (by
      have := read_ok (a := 0) h hr hn (Nat.zero_le _) h8
      rw [Nat.zero_add] at this
      exact this)
    by_cases h64 : 64 < cnt
    · have HE : Hid (R = none) := hid_of (by rw [hR]; unfold rdcd; rw [h8]; simp only [if_pos h64])
      have d64 : decide ((cnt : Int) > 64) = true := by simp; omega
      clear h hr hR h8 h64
      go_enter Try.func31, Try.ntmps31
      go_wp2_with (go_at_call 46; ((with_reducible refine R0.out.mono ?_); (rintro e w1 ⟨rfl, h1⟩; have HB1 := hid_of h1; clear h1)))
      go_ret2
      exact dres_none HE.out HB1.out
    · have HE : Hid (R = rloop d cnt j0 []) := hid_of (by rw [hR]; unfold rdcd; rw [h8]; simp only [if_neg h64])
      have d64 : decide ((cnt : Int) > 64) = false := by simp; omega
      have hj1 : j0 ≤ n := by have := HN.out; omega
      clear h hr hR h8
      go_enter Try.func31, Try.ntmps31
      go_wp2_with (go_at_call 46; ((with_reducible refine R0.out.mono ?_); (rintro e w1 ⟨rfl, h1⟩; have HB1 := hid_of h1; clear h1)))
      go_loopw [5, 6, 7] (fun av lv iv wr => ∃ (k at_ : Nat) (x : Option Addr) (m c : Nat) (lst : List Tk), k ≤ cnt ∧ iv = .int .u64 k ∧ av = .int .i64 at_ ∧ lv = .slice x m c ∧ at_ ≤ n ∧ Hid (R = rloop d (cnt - k) at_ lst ∧ lst.length = k) ∧ Hid (OT w.heap.size w wr (.slice x m c) lst)) (fun _ _ iv _ => cnt - (intOf iv).toNat)
      case atStart => exact ⟨0, j0, none, 0, 0, [], Nat.zero_le _, rfl, rfl, rfl, hj1, hid_of ⟨HE.out, rfl⟩, hid_of ⟨Nat.le_refl _, HB1.out, World.ownsRow_nil _ _ _ _⟩⟩
      case round =>
        obtain ⟨k, a, x, m, c, lst, hk, rfl, rfl, rfl, ha, hp, ho⟩ := hrel
        have HO := hid_of ho.out
        have HB := hid_of ho.out.bel
        have HPL := hid_of hp.out.2
        clear ho
        by_cases hlt : k < cnt
        · have b1 : (k : Int) < (cnt : Int) := by omega
          have hst : R = rloop d ((cnt - (k + 1)) + 1) a lst := by rw [show cnt - (k + 1) + 1 = cnt - k by omega]; exact hp.out.1
          clear hp
          unfold rloop at hst
          cases h1 : rd8 (d.drop a) with
          | none =>
            have HE2 : Hid (R = none) := hid_of (by rw [hst]; simp only [h1])
            have RD := hid_of (read_no (a := a) (HD.out.later HB.out (Nat.le_refl _)) HRR.out hn ha h1)
            clear hst h1
            go_wp2_with (go_at_call 46; ((with_reducible refine RD.out.mono ?_); (rintro e w3 ⟨rfl, h3⟩; have HB3 := hid_of (bel_step HB.out h3 (Nat.le_refl _)); clear h3)))
            go_ret2
            exact dres_none HE2.out HB3.out
          | some y1 =>
            obtain ⟨p, j⟩ := y1
            have hbd := rd8_bound HRR.out (by rw [HN.out]; exact ha) h1
            rw [HN.out] at hbd
            have RD := hid_of (read_ok (a := a) (HD.out.later HB.out (Nat.le_refl _)) HRR.out hn ha h1)
            simp only [h1] at hst
            obtain ⟨a2, ha2⟩ : ∃ a2, a2 = a + j := ⟨_, rfl⟩
            rw [← ha2] at RD hst hbd
            clear h1 ha2
            by_cases hp63 : 63 < p
            · have HE2 : Hid (R = none) := hid_of (by rw [hst, if_pos hp63])
              have dp : decide ((p : Int) > 63) = true := by simp; omega
              clear hst hp63
              go_wp2_with (go_at_call 46; ((with_reducible refine RD.out.mono ?_); (rintro e w3 ⟨rfl, h3⟩; have HB3 := hid_of (bel_step HB.out h3 (Nat.le_refl _)); clear h3)))
              go_ret2
              exact dres_none HE2.out HB3.out
            · have dp : decide ((p : Int) > 63) = false := by simp; omega
              rw [if_neg hp63] at hst
              cases h2 : rd8 (d.drop a2) with
              | none =>
                have HE2 : Hid (R = none) := hid_of (by rw [hst]; simp only [h2])
                have RD2 := hid_of (fun (w' : World) (hb : Below w.heap.size w w') => read_no (a := a2) (HD.out.later hb (Nat.le_refl _)) HRR.out hn hbd.2 h2)
                clear hst h2 hp63
                go_wp2_with (go_at_call 46; (first
                  | ((with_reducible refine RD.out.mono ?_); (rintro e w3 ⟨rfl, h3⟩; have HB3 := hid_of (bel_step HB.out h3 (Nat.le_refl _)); clear h3))
                  | ((with_reducible refine (RD2.out w3 HB3.out).mono ?_); (rintro e w4 ⟨rfl, h3⟩; have HB4 := hid_of (bel_step HB3.out h3 (Nat.le_refl _)); clear h3))))
                go_ret2
                exact dres_none HE2.out HB4.out
              | some y2 =>
                obtain ⟨q, j2⟩ := y2
                have hbd2 := rd8_bound HRR.out (by rw [HN.out]; exact hbd.2) h2
                rw [HN.out] at hbd2
                have RD2 := hid_of (fun (w' : World) (hb : Below w.heap.size w w') => read_ok (a := a2) (HD.out.later hb (Nat.le_refl _)) HRR.out hn hbd.2 h2)
                simp only [h2] at hst
                obtain ⟨a3, ha3⟩ : ∃ a3, a3 = a2 + j2 := ⟨_, rfl⟩
                rw [← ha3] at RD2 hst hbd2
                clear h2 ha3
                by_cases hq : 1000000000000000 < q
                · have HE2 : Hid (R = none) := hid_of (by rw [hst, if_pos hq])
                  have dq : decide ((q : Int) > 1000000000000000) = true := by simp; omega
                  clear hst hp63 hq
                  go_wp2_with (go_at_call 46; (first
                    | ((with_reducible refine RD.out.mono ?_); (rintro e w3 ⟨rfl, h3⟩; have HB3 := hid_of (bel_step HB.out h3 (Nat.le_refl _)); clear h3))
                    | ((with_reducible refine (RD2.out w3 HB3.out).mono ?_); (rintro e w4 ⟨rfl, h3⟩; have HB4 := hid_of (bel_step HB3.out h3 (Nat.le_refl _)); clear h3))))
                  go_ret2
                  exact dres_none HE2.out HB4.out
                · have dq : decide ((q : Int) > 1000000000000000) = false := by simp; omega
                  have HE2 : Hid (R = rloop d (cnt - (k + 1)) a3 (lst ++ [((p : Int), (q : Int))])) := hid_of (by rw [hst, if_neg hq])
                  have ap : IntKind.i64.wrap (p : Int) = (p : Int) := IntWalk.i64_in _ (by omega)
                  have aq : IntKind.i64.wrap (q : Int) = (q : Int) := IntWalk.i64_in _ (by omega)
                  have au : IntKind.u64.wrap ((k : Int) + 1) = (k : Int) + 1 := by rw [IntKind.wrap_u64]; omega
                  clear hst hp63 hq
                  go_wp2_with (first
                    | (go_at_call 46; (first
                      | ((with_reducible refine RD.out.mono ?_); (rintro e w3 ⟨rfl, h3⟩; have HO3 := hid_of (HO.out.later h3); have HB3 := hid_of (bel_step HB.out h3 (Nat.le_refl _)); clear h3))
                      | ((with_reducible refine (RD2.out w3 HB3.out).mono ?_); (rintro e w4 ⟨rfl, h3⟩; have HO4 := hid_of (HO3.out.later h3); clear h3))))
                    | (at_builtin; (refine wpList_tick rfl _ _ rfl (v := .slice x m c) rfl HO4.out ((p : Int), (q : Int)) rfl (by have := HPL.out; omega) ?_); intro xo xn xc w5 hxn h5; have HO5 := hid_of h5; clear h5 hxn))
                  go_roundw
                  case rel => exact ⟨k + 1, a3, _, _, _, _, by omega, by go_num, rfl, rfl, hbd2.2, hid_of ⟨HE2.out, by rw [List.length_append, HPL.out]; rfl⟩, HO5⟩
                  case measure => simp [intOf]; omega
        · obtain rfl : k = cnt := by omega
          have hst : R = if a = d.length ∧ okV lst = true then some lst else none := by
            have := hp.out.1
            rw [Nat.sub_self] at this
            exact this
          rw [HN.out] at hst
          clear hp
          have TR := hid_of HO.out.rd
          obtain ⟨v, hv⟩ : ∃ v, v = okV lst := ⟨_, rfl⟩
          have VL := hid_of (rvalid_r TR.out hv)
          rw [← hv] at hst
          clear hv
          by_cases hend : a = n
          · have de : ((a : Int) != (n : Int)) = false := by simp; omega
            cases v
            · have HE2 : Hid (R = none) := hid_of (by rw [hst, if_neg (by simp)])
              clear hst hend
              go_wp2_with (go_at_call 17; ((with_reducible refine VL.out.mono ?_); (rintro e w4 ⟨rfl, h4⟩; have HB4 := hid_of (bel_step HB.out h4 (Nat.le_refl _)); clear h4)))
              go_ret2
              exact dres_none HE2.out HB4.out
            · have HE2 : Hid (R = some lst) := hid_of (by rw [hst, if_pos ⟨hend, rfl⟩])
              clear hst hend
              go_wp2_with (go_at_call 17; ((with_reducible refine VL.out.mono ?_); (rintro e w4 ⟨rfl, h4⟩; have HT4 := hid_of (TR.out.at h4); have HB4 := hid_of (bel_step HB.out h4 (Nat.le_refl _)); clear h4)))
              go_ret2
              exact ⟨_, _, _, by rw [HE2.out]; rfl, by rw [HE2.out]; exact HT4.out, HB4.out⟩
          · have HE2 : Hid (R = none) := hid_of (by rw [hst, if_neg (fun hh => hend hh.1)])
            have de : ((a : Int) != (n : Int)) = true := by simp; omega
            clear hst hend
            go_wp2
            go_ret2
            exact dres_none HE2.out HB.out
end Go.Proofs.Ytofgmimdmgaljaa
