/- append of rows onto a slice of the call's own. -/
import Derived.Test.YtogfgcihhnblkaaDoorShaIsRow
import Derived.Test.YtogfgcihhnblkaaDoorShaOwn
namespace Go.Proofs.YtogfgcihhnblkaaDoor
open Go.RowKit

theorem bs_ones (l : List Int) : ∀ u ∈ bs l, u.oneCell' = true := bs_one l
theorem Lies.srcs {w : World} {v : Value} {l : List Int} (h : Lies w v l) : Src Tryd.prog 1 22 v l.length (bs l) w := by
  obtain ⟨ao, cap, rfl, h2, h3, h4⟩ := h
  cases ao with
  | none =>
    cases l with
    | nil => exact Src.ofNil _ Tryd.underlying22 cap
    | cons x r => obtain ⟨g, o, q, _⟩ := h4 (by simp); cases q
  | some a =>
    refine Src.ofSlice _ Tryd.underlying22 a l.length cap (bs l) (by simp [bs]) (fun j u hu => ?_) (bs_ones l)
    have h0 : 0 < l.length := by
      have := (List.getElem?_eq_some_iff.1 hu).1
      simp [bs] at this; omega
    obtain ⟨g, o, q1, q2, q3⟩ := h4 h0
    cases q1
    rw [Addr.add_mid]; exact q3 j u hu
theorem OS.lies {B n cap : Nat} {w0 w : World} {ao : Option Addr} {l : List Int} (h : OS B w0 w (.slice ao n cap) l) (hl : l.length ≤ 1000000000) : Lies w (.slice ao n cap) l := by
  rcases h.own.2 with ⟨h1, h2⟩ | ⟨g, c, cur, h1, _, hg, hnc, hcm, _, ht⟩
  · simp only [Value.slice.injEq] at h1
    obtain ⟨rfl, rfl, rfl⟩ := h1
    exact ⟨none, 0, by rw [← h2], by omega, by omega, fun h => by omega⟩
  · simp only [Value.slice.injEq] at h1
    obtain ⟨rfl, rfl, rfl⟩ := h1
    unfold maxLen at hcm
    refine ⟨_, _, rfl, hnc, by omega, fun h0 => ⟨g, 0, rfl, lt_of_block hg, fun j u hu => ?_⟩⟩
    have := World.news_of_block hg j u (by
      rw [← ht, List.getElem?_take] at hu
      split at hu
      · exact hu
      · cases hu)
    rw [Addr.add_mid] at this
    exact this
theorem os_empty (w : World) : OS w.heap.size w (w.alloc (.cells #[] 5)) (.slice (some ⟨w.heap.size, 0, none⟩) 0 0) [] :=
  ⟨Nat.le_refl _, bel_alloc w _, rfl, .inr ⟨w.heap.size, 0, #[], rfl, Nat.le_refl _, heap_alloc_new w _, Nat.le_refl _, by unfold maxLen; omega, rfl, rfl⟩⟩
theorem os_nil (w : World) : OS w.heap.size w w (.slice none 0 0) [] := ⟨Nat.le_refl _, Below.refl _ _, World.ownsRow_nil _ _ _ _⟩

/-- append of a row. -/
theorem wpList_app {ops : Array Oper} {rest : List Oper} {o : Oper} {a : Act} {Q : Exit → Act → World → Prop} (hgd : o.guard = none) (s x : Operand)
    (ho : o.op = .call { callee := .builtin .append, args := #[s, x], argTypes := #[22, 22] })
    {B : Nat} {w0 w : World} {v : Value} {l : List Int} (hv : a.eval s = v) (H : OS B w0 w v l) {vx : Value} {m : List Int} (hx : a.eval x = vx) (L : Lies w vx m) (hl : l.length + m.length ≤ 1000000000)
    (h : ∀ (ao : Option Addr) (n cap : Nat) (w' : World), n = l.length + m.length → OS B w0 w' (.slice ao n cap) (l ++ m) → wpList Tryd.prog ops Q rest (a.put o.dst (.slice ao n cap)) w') :
    wpList Tryd.prog ops Q (o :: rest) a w := by
  obtain ⟨i0, hi, hz0, hz1, hz2⟩ := info_parts Tryd.infoU8
  refine wpList_append_src _ hgd s x 22 22 ho B 5 i0 (.int .u8 0) 1 1 Tryd.underlying22 hi hz0 hz1 hz2 rfl (by decide) v l.length (bs l) hv H.own vx m.length (bs m) hx L.srcs (by unfold maxLen; omega) (by omega) H.size ?_
  intro v2 w2 hown hg _ _
  have H2 := H.app hown rfl hg
  obtain ⟨ao, cap, rfl⟩ := own_shape hown
  exact h ao _ cap w2 rfl (by rw [← List.length_append] at H2 ⊢; exact H2)

end Go.Proofs.YtogfgcihhnblkaaDoor
