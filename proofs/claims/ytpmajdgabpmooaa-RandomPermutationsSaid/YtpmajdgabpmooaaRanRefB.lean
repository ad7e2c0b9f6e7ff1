/- The reference's Choose, and the law of Choose. No condition. -/
import Derived.Test.YtpmajdgabpmooaaRanRefA
namespace Go.Proofs.Ytpmajdgabpmooaa
open Go.RowKit

theorem u64sE : Elem Try.prog 62 22 (.int .u64 0) 8 := ⟨Try.underlying62, by kernel_rfl, rfl⟩
def us (l : List Nat) : List Value := l.map (fun x : Nat => Value.int .u64 (x : Int))
theorem us_length (l : List Nat) : (us l).length = l.length := by simp [us]
theorem us_one (l : List Nat) : ∀ u ∈ us l, u.oneCell' = true := by
  intro v hv; simp [us] at hv; obtain ⟨x, _, rfl⟩ := hv; rfl
theorem us_append (a b : List Nat) : us (a ++ b) = us a ++ us b := by simp [us]
theorem ow_lit {E : TypeId} {w : World} {l : List Value} {n : Nat} {cs : Array Value} (hn : n = l.length) (hc : cs = l.toArray) (h : l.length ≤ 9223372036854775807) : Ow E w.heap.size w (w.alloc (.cells cs E)) (.slice (some ⟨w.heap.size, 0, none⟩) n n) l := by
  subst hn hc
  exact ⟨Nat.le_refl _, bel_alloc w _, by simp, .inr ⟨w.heap.size, l.length, l.toArray, rfl, Nat.le_refl _, heap_alloc_new w _, Nat.le_refl _, by unfold maxLen; exact h, by simp, by simp⟩⟩

/-- append of a row, inside a region that draws its order. -/
theorem step_app {P : Program} {S E : TypeId} {z : Value} {eb : Nat} (T : Elem P S E z eb) {ops : Array Oper} {o : Oper} {a : Act} {w : World} {K : Act → World → Prop} {Q : Exit → Act → World → Prop} {F : Prop} (hgd : o.guard = none) (s x : Operand)
    (ho : o.op = .call { callee := .builtin .append, args := #[s, x], argTypes := #[S, S] })
    {B : Nat} {w0 : World} {v : Value} {l : List Value} (hv : a.eval s = v) (H : Ow E B w0 w v l) {vx : Value} {m : List Value} (hx : a.eval x = vx) (L : Rd w vx m) (h1 : ∀ u ∈ m, u.oneCell' = true) (hl : (l.length + m.length) * eb ≤ 140737488355328) (hl2 : l.length + m.length ≤ 140737488355328)
    (h : ∀ (ao : Option Addr) (n cap : Nat) (w' : World), n = l.length + m.length → Ow E B w0 w' (.slice ao n cap) (l ++ m) → K (a.put o.dst (.slice ao n cap)) w') :
    if Region.wanted o (yielded ops a.tmps) = true then Oper.wp P o a w K Q else F := by
  obtain ⟨i0, hi, hz0, hz1, hz2⟩ := info_parts T.info
  refine step_append_src _ hgd s x S S ho B E i0 z 1 eb T.und hi hz0 hz1 hz2 T.one (by decide) v l.length l hv H.own vx m.length m hx (L.srcs T h1) (by unfold maxLen; omega) (by omega) H.size ?_
  intro v2 w2 hown hg _ _
  have H2 := H.app hown rfl hg
  obtain ⟨ao, cap, rfl⟩ := own_shape hown
  exact h ao _ cap w2 rfl H2

/-- A slice of uint64 that reads as l, taken apart. -/
theorem rdu_open {w : World} {ao : Option Addr} {n cap : Nat} {l : List Nat} (h : Rd w (.slice ao n cap) (us l)) (h0 : 0 < l.length) :
    n = l.length ∧ n ≤ cap ∧ cap ≤ 9223372036854775807 ∧ ∃ g o, ao = some ⟨g, o, none⟩ ∧ g < w.heap.size ∧ ∀ j, j < n → w.cell? ⟨g, o + j, none⟩ = some (.int .u64 ((l.getD j 0 : Nat) : Int)) := by
  obtain ⟨a2, c2, h1, h2, h3, h4⟩ := h
  simp only [Value.slice.injEq, us_length] at h1 h2
  obtain ⟨rfl, rfl, rfl⟩ := h1
  obtain ⟨g, o, q1, q2, q3⟩ := h4 (by rw [us_length]; exact h0)
  exact ⟨rfl, h2, h3, g, o, q1, q2, fun j hj => q3 j _ (by simp [us, List.getD, hj])⟩
theorem rowN_getD {n j : Nat} (h : j ≤ n) : (rowN n).getD j 0 = chN n j := by
  rw [List.getD_eq_getElem?_getD, rowN_at h]; rfl
theorem rowN_zero : rowN 0 = [1] := rfl
theorem rowTo_one (n : Nat) : rowTo n 1 = [1] := by simp [rowTo, chN_zero]
theorem rowTo_full (n : Nat) : rowTo n n ++ [1] = rowN n := by
  have h := rowTo_succ n n
  rw [chN_self] at h
  rw [← h]; rfl

set_option maxRecDepth 100000 in
set_option maxHeartbeats 1600000 in
theorem refChoose_any (n : Nat) (z k : Int) (w : World) (hz : z = n) (hn : n ≤ 60) (hk : -9223372036854775808 ≤ k) (hk2 : k ≤ 9223372036854775807) :
    Calls Try.prog 28 #[.int .i64 z, .int .i64 k] w fun e w' => e = .returned (.int .u64 ((chI n k : Nat) : Int)) ∧ Below w.heap.size w w' := by
  subst hz
  by_cases h0 : k < 0
  · have HC : Hid (chI n k = 0) := hid_of (by unfold chI; rw [if_pos h0])
    have d0 : decide (k < 0) = true := by simp; omega
    go_enter Try.func28, Try.ntmps28
    go_wp2
    go_ret
    exact ⟨by rw [HC.out]; rfl, Below.refl _ _⟩
  · obtain ⟨m, rfl⟩ := Int.eq_ofNat_of_zero_le (show 0 ≤ k by omega)
    have d0 : decide ((m : Int) < 0) = false := by simp
    by_cases h1 : n < m
    · have HC : Hid (chI n (m : Int) = 0) := hid_of (by rw [chI_nat]; exact chN_gt _ _ h1)
      have d1 : decide (n < m) = true := by simp; omega
      go_enter Try.func28, Try.ntmps28
      go_wp2
      go_ret
      exact ⟨by rw [HC.out]; rfl, Below.refl _ _⟩
    · have d1 : decide (n < m) = false := by simp; omega
      have hm : m ≤ n := by omega
      have R0 : Hid (Rd (w.alloc (.cells #[.int .u64 1] 22)) (.slice (some ⟨w.heap.size, 0, none⟩) (0 + 1) 1) (us (rowN 0))) := hid_of (rd_new rfl rfl (by simp [us, rowN]))
      rw [chI_nat]
      clear h0 h1 hk hk2
      go_enter Try.func28, Try.ntmps28
      go_wp2
      go_loopw [5, 6] (fun rv iv wr => ∃ (i : Nat) (xo : Option Addr) (xc : Nat), i ≤ n ∧ iv = .int .i64 i ∧ rv = .slice xo (i + 1) xc ∧ Hid (Rd wr (.slice xo (i + 1) xc) (us (rowN i))) ∧ Hid (Below w.heap.size w wr)) (fun _ iv _ => n - (intOf iv).toNat)
      case atStart => exact ⟨0, _, _, Nat.zero_le _, rfl, rfl, R0, hid_of (bel_alloc _ _)⟩
      case round =>
        obtain ⟨wo, rfl⟩ : ∃ wo : World, wo = wr := ⟨_, rfl⟩
        obtain ⟨i, xo, xc, hi, rfl, rfl, hrd, hb⟩ := hrel
        obtain ⟨hq1, hc1, hc2, g, o, rfl, hg, hcell⟩ := rdu_open hrd.out (by rw [rowN_length]; omega)
        have HCELL := hid_of hcell
        have HG := hid_of hg
        clear hq1 hcell hg
        by_cases hlt : i < n
        · have e1 : decide (i < n) = true := by simp; omega
          have O1 : Hid (Ow 22 wo.heap.size wo (wo.alloc (.cells #[.int .u64 1] 22)) (.slice (some ⟨wo.heap.size, 0, none⟩) 1 1) (us (rowTo (i + 1) 1))) := hid_of (by rw [rowTo_one]; exact ow_lit rfl rfl (by simp [us]))
          go_wp2
          go_loopw [7, 8] (fun nv jv wr => ∃ (j : Nat) (yo : Option Addr) (yc : Nat), 1 ≤ j ∧ j ≤ i + 1 ∧ jv = .int .i64 j ∧ nv = .slice yo j yc ∧ Hid (Ow 22 wo.heap.size wo wr (.slice yo j yc) (us (rowTo (i + 1) j)))) (fun _ jv _ => i + 1 - (intOf jv).toNat)
          case atStart => exact ⟨1, _, _, Nat.le_refl _, by omega, rfl, rfl, O1⟩
          case round =>
            obtain ⟨j, yo, yc, hj1, hj2, rfl, rfl, how⟩ := hrel
            by_cases hjl : j < i + 1
            · obtain ⟨p, hp⟩ : ∃ p, p = j - 1 := ⟨_, rfl⟩
              obtain ⟨a, ha⟩ : ∃ a, a = chN i p := ⟨_, rfl⟩
              obtain ⟨b, hb2⟩ : ∃ b, b = chN i j := ⟨_, rfl⟩
              obtain ⟨c, hc⟩ : ∃ c, c = chN (i + 1) j := ⟨_, rfl⟩
              have hsum : a + b = c := by rw [ha, hb2, hc, show j = p + 1 by omega]; rfl
              have hcl : c < 18446744073709551616 := by rw [hc]; exact chN_lt64 (by omega)
              have c1 : wr.cell? ⟨g, o + p, none⟩ = some (.int .u64 (a : Int)) := by
                have := (how.out.bel.cell (p := ⟨g, o + p, none⟩) HG.out).trans (HCELL.out p (by omega))
                rwa [rowN_getD (by omega), ← ha] at this
              have c2 : wr.cell? ⟨g, o + j, none⟩ = some (.int .u64 (b : Int)) := by
                have := (how.out.bel.cell (p := ⟨g, o + j, none⟩) HG.out).trans (HCELL.out j (by omega))
                rwa [rowN_getD (by omega), ← hb2] at this
              have s1 : IntKind.i64.wrap ((j : Int) - 1) = (p : Int) := by rw [IntWalk.i64_in _ (by omega)]; omega
              have s2 : IntKind.u64.wrap ((a : Int) + (b : Int)) = (c : Int) := by rw [IntKind.wrap_u64]; omega
              have b1 : (p : Int) < (i : Int) + 1 := by omega
              have b2 : (j : Int) < (i : Int) + 1 := by omega
              have b3 : (0 : Int) ≤ (p : Int) := by omega
              have b4 : (0 : Int) ≤ (j : Int) := by omega
              have HLEN : Hid ((us (rowTo (i + 1) j)).length = j) := hid_of (by rw [us_length, rowTo_length])
              have R1 : Hid (Rd (wr.alloc (.cells #[.int .u64 (c : Int)] 22)).drew (.slice (some ⟨wr.heap.size, 0, none⟩) 1 1) (us [c])) := hid_of (rd_new (w := wr) (l := us [c]) (n := 1) (cs := #[.int .u64 (c : Int)]) (E := 22) (m := (0, 0)) rfl rfl (by simp [us]))
              have HC := hid_of hc
              clear hp ha hb2 hc hsum hcl
              go_wp2
              go_region_law ((refine step_app u64sE (by rfl) _ _ (by rfl) (v := .slice yo j yc) (by rfl) ((how.out.alloc _).drew) (vx := .slice (some ⟨wr.heap.size, 0, none⟩) 1 1) (by rfl) R1.out (us_one _) (by rw [HLEN.out, us_length]; simp; omega) (by rw [HLEN.out, us_length]; simp; omega) ?_; intro yo3 n3 c3 w3 hn3 h3; obtain rfl : n3 = j + 1 := (by rw [hn3, HLEN.out, us_length]; rfl); have X3 : Hid (Ow 22 wo.heap.size wo w3 (.slice yo3 (j + 1) c3) (us (rowTo (i + 1) (j + 1)))) := hid_of (by rw [rowTo_succ, us_append, ← HC.out]; exact h3); clear h3 hn3))
              all_goals
                clear s1 s2
                go_wp2
                go_roundw
                case rel => exact ⟨j + 1, yo3, c3, by omega, by omega, by go_num, rfl, X3⟩
                case measure => simp [intOf]; omega
            · obtain rfl : j = i + 1 := by omega
              have HLEN : Hid ((us (rowTo (i + 1) (i + 1))).length = i + 1) := hid_of (by rw [us_length, rowTo_length])
              have R1 := hid_of (rd_new (w := wr) (l := us [1]) (n := 1) (cs := #[.int .u64 1]) (E := 22) (m := (0, 0)) rfl rfl (by simp [us]))
              go_wp2_with (at_builtin; ((refine wpList_app u64sE rfl _ _ rfl (v := .slice yo (i + 1) yc) rfl (how.out.alloc _) (vx := .slice (some ⟨wr.heap.size, 0, none⟩) 1 1) rfl R1.out (us_one _) (by rw [HLEN.out, us_length]; simp; omega) (by rw [HLEN.out, us_length]; simp; omega) ?_); intro xo3 n3 c3 w3 hn3 h3; obtain rfl : n3 = i + 1 + 1 := (by rw [hn3, HLEN.out, us_length]; rfl); have X3 : Hid (Ow 22 wo.heap.size wo w3 (.slice xo3 (i + 1 + 1) c3) (us (rowN (i + 1)))) := hid_of (by rw [← rowTo_full, us_append]; exact h3); clear h3 hn3))
              go_roundw
              case rel => exact ⟨i + 1, xo3, c3, by omega, by go_num, rfl, hid_of (X3.out.rd (by rw [us_length, rowN_length]; omega)), hid_of (step_b hb.out X3.out.bel (Nat.le_refl _))⟩
              case measure => simp [intOf]; omega
        · obtain rfl : i = n := by omega
          have e1 : decide (i < i) = false := by simp
          have c1 : wo.cell? ⟨g, o + m, none⟩ = some (.int .u64 ((chN i m : Nat) : Int)) := by
            have := HCELL.out m (by omega)
            rwa [rowN_getD hm] at this
          have b1 : (m : Int) < (i : Int) + 1 := by omega
          have b2 : (0 : Int) ≤ (m : Int) := by omega
          go_wp2
          go_ret
          exact ⟨rfl, hb.out⟩
end Go.Proofs.Ytpmajdgabpmooaa
