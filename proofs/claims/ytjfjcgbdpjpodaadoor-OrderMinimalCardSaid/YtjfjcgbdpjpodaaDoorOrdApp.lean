/- append of a row of pairs in a region; parts of a row of pairs. Bounds on sizes alone. -/
import Derived.Test.YtjfjcgbdpjpodaaDoorOrdRow
namespace Go.Proofs.YtjfjcgbdpjpodaaDoor
open Go.RowKit

theorem TRd.src {w : World} {v : Value} {l : List Tk} (h : TRd w v l) : Src Tryd.prog 2 22 v l.length (ts l) w := by
  obtain ⟨ao, cap, rfl, h2, h3, h4⟩ := h
  by_cases h0 : 0 < l.length
  · obtain ⟨g, o, rfl, hg, hc⟩ := h4 h0
    refine Src.ofSlice _ Tryd.underlying22 _ _ _ (ts l) (ts_length l) (fun j u hu => ?_) (ts_one l)
    have hj : j < l.length * 2 := by rw [← ts_length]; exact (List.getElem?_eq_some_iff.1 hu).1
    obtain ⟨t, ht⟩ : ∃ t, l[j / 2]? = some t := ⟨_, List.getElem?_eq_getElem (by omega)⟩
    obtain ⟨c1, c2⟩ := hc _ t ht
    obtain ⟨g1, g2⟩ := ts_get l _ t ht
    rw [Addr.add_mid]
    rcases Nat.mod_two_eq_zero_or_one j with hm | hm
    · rw [show j / 2 * 2 = j by omega] at c1 g1
      rw [c1]; exact g1.symm.trans hu
    · rw [show o + j / 2 * 2 + 1 = o + j by omega] at c2
      rw [show j / 2 * 2 + 1 = j by omega] at g2
      rw [c2]; exact g2.symm.trans hu
  · obtain rfl : l = [] := by cases l with
      | nil => rfl
      | cons a r => simp at h0
    cases ao with
    | none => exact Src.ofNil _ Tryd.underlying22 _
    | some a => exact Src.ofSlice _ Tryd.underlying22 a _ _ [] rfl (fun j u hu => by simp at hu) (by simp)
theorem trd_take {w : World} {ao : Option Addr} {n cap i : Nat} {l : List Tk} (h : TRd w (.slice ao n cap) l) (hi : i ≤ n) : TRd w (.slice ao i cap) (l.take i) := by
  obtain ⟨a, c, e, h2, h3, h4⟩ := h
  simp only [Value.slice.injEq] at e
  obtain ⟨rfl, rfl, rfl⟩ := e
  have hl : (l.take i).length = i := by rw [List.length_take]; omega
  refine ⟨ao, cap, by rw [hl], by rw [hl]; omega, h3, fun h0 => ?_⟩
  rw [hl] at h0
  obtain ⟨g, o, q1, q2, q3⟩ := h4 (by omega)
  refine ⟨g, o, q1, q2, fun j t ht => q3 j t ?_⟩
  have hj : j < i := by rw [← hl]; exact (List.getElem?_eq_some_iff.1 ht).1
  rwa [List.getElem?_take_of_lt hj] at ht
theorem trd_drop {w : World} {g o n cap i : Nat} {l : List Tk} (h : TRd w (.slice (some ⟨g, o, none⟩) n cap) l) (hi : i ≤ n) : TRd w (.slice (some ⟨g, o + i * 2, none⟩) (n - i) (cap - i)) (l.drop i) := by
  obtain ⟨a, c, e, h2, h3, h4⟩ := h
  simp only [Value.slice.injEq] at e
  obtain ⟨rfl, rfl, rfl⟩ := e
  have hl : (l.drop i).length = l.length - i := by rw [List.length_drop]
  refine ⟨_, cap - i, by rw [hl], by rw [hl]; omega, by omega, fun h0 => ?_⟩
  rw [hl] at h0
  obtain ⟨g2, o2, q1, q2, q3⟩ := h4 (by omega)
  simp only [Option.some.injEq, Addr.mk.injEq] at q1
  obtain ⟨rfl, rfl, _⟩ := q1
  refine ⟨g, o + i * 2, rfl, q2, fun j t ht => ?_⟩
  rw [List.getElem?_drop] at ht
  have := q3 _ t ht
  rw [show o + (i + j) * 2 = o + i * 2 + j * 2 by omega] at this
  exact this
theorem trd_end {w : World} {ao : Option Addr} {n cap i c : Nat} {l : List Tk} (h : TRd w (.slice ao n cap) l) (hi : n ≤ i) (hc : c ≤ 9223372036854775807) : TRd w (.slice ao 0 c) (l.drop i) := by
  have := h.cut.1
  rw [List.drop_of_length_le (by omega)]
  exact ⟨_, _, rfl, Nat.zero_le _, hc, fun h => by simp at h⟩

/-- append of a row of pairs, inside a region that draws its order. -/
theorem step_prs {ops : Array Oper} {o : Oper} {a : Act} {w : World} {K : Act → World → Prop} {Q : Exit → Act → World → Prop} {F : Prop} (hgd : o.guard = none) (s x : Operand)
    (ho : o.op = .call { callee := .builtin .append, args := #[s, x], argTypes := #[22, 22] })
    {B : Nat} {w0 : World} {v : Value} {l : List Tk} (hv : a.eval s = v) (H : OT B w0 w v l) {vx : Value} {m : List Tk} (hx : a.eval x = vx) (L : TRd w vx m) (hl : l.length + m.length ≤ 1000000000)
    (h : ∀ (ao : Option Addr) (n cap : Nat) (w' : World), n = l.length + m.length → OT B w0 w' (.slice ao n cap) (l ++ m) → K (a.put o.dst (.slice ao n cap)) w') :
    if Region.wanted o (yielded ops a.tmps) = true then Oper.wp Tryd.prog o a w K Q else F := by
  obtain ⟨i0, hi, hz0, hz1, hz2⟩ := info_parts Tryd.infoPr
  refine step_append_src _ hgd s x _ _ ho B 44 i0 (.agg #[.int .i64 0, .int .i64 0]) 2 16 Tryd.underlying22 hi hz0 hz1 hz2 rfl (by decide) v l.length (ts l) hv H.own vx m.length (ts m) hx L.src (by unfold maxLen; omega) (by omega) H.size ?_
  intro v2 w2 hown hg _ _
  have H2 := H.app (m := m) hown rfl hg
  obtain ⟨ao, cap, rfl⟩ := own_shape hown
  exact h ao _ cap w2 rfl H2
end Go.Proofs.YtjfjcgbdpjpodaaDoor
