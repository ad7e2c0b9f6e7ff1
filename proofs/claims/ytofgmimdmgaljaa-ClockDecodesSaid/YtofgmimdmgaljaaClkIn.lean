/- Rows of bytes in clock's laws: one that came in, one of the call's own. Bounds on sizes. -/
import Derived.Test.YtofgmimdmgaljaaClkEncM
namespace Go.Proofs.Ytofgmimdmgaljaa
open Go.RowKit

/-- What the walk is told of a slice of integers that came in. -/
def IsRow (k : IntKind) (w : World) (a : Option Addr) (len cap : Nat) (zs : List Int) : Prop :=
  (a = none ∧ len = 0 ∧ cap = 0 ∧ zs = []) ∨
  ∃ x, a = some x ∧ len ≤ cap ∧ cap ≤ maxLen ∧ zs.length = cap ∧ (∀ i, i < zs.length → w.cell? (x.add i) = some (.int k (zs.getD i 0))) ∧ ∀ n ∈ zs, (Lit.int k n).wf = true
theorem u8_wf {n : Int} (h : (Lit.int .u8 n).wf = true) : 0 ≤ n ∧ n ≤ 255 := by
  simpa [Lit.wf, IntKind.min, IntKind.max, IntKind.signed, IntKind.bits] using h
theorem IsRow.br {w : World} {a : Option Addr} {len cap : Nat} {zs : List Int} (h : IsRow .u8 w a len cap zs) :
    ∃ l : List Int, l.length = len ∧ (∀ y ∈ l, 0 ≤ y ∧ y ≤ 255) ∧ BR w (.slice a len cap) l := by
  rcases h with ⟨rfl, rfl, rfl, rfl⟩ | ⟨x, rfl, h1, h2, h3, h4, h5⟩
  · exact ⟨[], rfl, by simp, none, 0, rfl, by simp, by omega, fun h => by simp at h⟩
  · unfold maxLen at h2
    have htl : (zs.take len).length = len := by rw [List.length_take]; omega
    refine ⟨zs.take len, htl, fun y hy => u8_wf (h5 y (List.mem_of_mem_take hy)), some x, cap, by rw [htl], by omega, by omega, fun h0 => ?_⟩
    rw [htl] at h0
    have h6 := h4 0 (by omega)
    rw [show x.add 0 = x by rfl] at h6
    have hx := spot_none h6
    refine ⟨x.block, x.off, by rw [← hx], World.block_lt_of_cell? w _ h6, fun j u hu => ?_⟩
    have hj : j < len := by
      have := (List.getElem?_eq_some_iff.1 hu).1
      simp [Wr.bs] at this; omega
    have h7 := h4 j (by omega)
    rw [hx, Addr.add_mid] at h7
    rw [h7]
    simp only [Wr.bs, List.getElem?_map, List.getElem?_take, hj, if_true] at hu
    rw [List.getElem?_eq_getElem (by omega)] at hu
    simp only [Option.map_some, Option.some.injEq] at hu
    rw [← hu]
    simp [List.getD, show j < zs.length by omega]
theorem BR.at {w w' : World} {v : Value} {l : List Int} (h : BR w v l) (hb : Below w.heap.size w w') : BR w' v l := h.later hb (Nat.le_refl _)
theorem BR.len {w : World} {a : Option Addr} {n c : Nat} {l : List Int} (h : BR w (.slice a n c) l) : l.length = n ∧ n ≤ c ∧ c ≤ 9223372036854775807 := by
  obtain ⟨_, _, q, q1, q2, _⟩ := h
  simp only [Value.slice.injEq] at q
  omega
/-- A beginning of a row. -/
theorem BR.take {w : World} {a : Option Addr} {n c : Nat} {l : List Int} (h : BR w (.slice a n c) l) (k : Nat) (hk : k ≤ n) : BR w (.slice a k c) (l.take k) := by
  obtain ⟨h1, h2, h3⟩ := h.len
  obtain ⟨x, y, q, q1, q2, q3⟩ := h
  simp only [Value.slice.injEq] at q
  obtain ⟨rfl, rfl, rfl⟩ := q
  have hl : (l.take k).length = k := by rw [List.length_take]; omega
  refine ⟨a, c, by rw [hl], by omega, h3, fun h0 => ?_⟩
  obtain ⟨g, o, r1, r2, r3⟩ := q3 (by omega)
  refine ⟨g, o, r1, r2, fun j u hu => r3 j u ?_⟩
  have e : Wr.bs (l.take k) = (Wr.bs l).take k := by simp [Wr.bs]
  rw [e, List.getElem?_take] at hu
  split at hu
  · exact hu
  · cases hu
theorem BR.src {w : World} {v : Value} {l : List Int} (h : BR w v l) : Src Try.prog 1 35 v l.length (Wr.bs l) w := by
  obtain ⟨ao, cap, rfl, h2, h3, h4⟩ := h
  cases ao with
  | none =>
    cases l with
    | nil => exact Src.ofNil _ Try.underlying35 cap
    | cons x r => obtain ⟨g, o, q, _⟩ := h4 (by simp); cases q
  | some a =>
    refine Src.ofSlice _ Try.underlying35 a l.length cap (Wr.bs l) (by simp [Wr.bs]) (fun j u hu => ?_) (Wr.bs_one l)
    have h0 : 0 < l.length := by
      have := (List.getElem?_eq_some_iff.1 hu).1
      simp [Wr.bs] at this; omega
    obtain ⟨g, o, q1, q2, q3⟩ := h4 h0
    cases q1
    rw [Addr.add_mid]; exact q3 j u hu
/-- A row of bytes of the call's own. -/
def OB (B : Nat) (w0 w : World) (v : Value) (l : List Int) : Prop := B ≤ w0.heap.size ∧ Below B w0 w ∧ w.ownsRow B 5 1 v l.length (Wr.bs l)
theorem OB.size {B : Nat} {w0 w : World} {v : Value} {l : List Int} (h : OB B w0 w v l) : B ≤ w.heap.size := Nat.le_trans h.1 h.2.1.size
theorem OB.alloc {B : Nat} {w0 w : World} {v : Value} {l : List Int} (h : OB B w0 w v l) (o : Obj) : OB B w0 (w.alloc o) v l := ⟨h.1, h.2.1.alloc h.size _, h.2.2.alloc o⟩
theorem ob_empty (w : World) : OB w.heap.size w (w.alloc (.cells #[] 5)) (.slice (some ⟨w.heap.size, 0, none⟩) 0 0) [] :=
  ⟨Nat.le_refl _, bel_alloc w _, rfl, .inr ⟨w.heap.size, 0, #[], rfl, Nat.le_refl _, heap_alloc_new w _, Nat.le_refl _, by unfold maxLen; omega, rfl, rfl⟩⟩
theorem ob_nil (w : World) : OB w.heap.size w w (.slice none 0 0) [] := ⟨Nat.le_refl _, Below.refl _ _, World.ownsRow_nil _ _ _ _⟩
theorem OB.br {B n cap : Nat} {w0 w : World} {ao : Option Addr} {l : List Int} (h : OB B w0 w (.slice ao n cap) l) : BR w (.slice ao n cap) l := by
  rcases h.2.2.2 with ⟨h1, h2⟩ | ⟨g, c, cur, h1, _, hg, hnc, hcm, _, ht⟩
  · simp only [Value.slice.injEq] at h1
    obtain ⟨rfl, rfl, rfl⟩ := h1
    exact ⟨none, 0, by rw [← h2], by omega, by omega, fun h => by omega⟩
  · simp only [Value.slice.injEq] at h1
    obtain ⟨rfl, rfl, rfl⟩ := h1
    unfold maxLen at hcm
    refine ⟨_, _, rfl, hnc, by omega, fun h0 => ⟨g, 0, rfl, lt_of_block hg, fun j u hu => ?_⟩⟩
    have := World.news_of_block hg j u (by
      rw [← ht, List.getElem?_take] at hu
      split at hu
      · exact hu
      · cases hu)
    rw [Addr.add_mid] at this
    exact this
/-- append of a row of bytes. -/
theorem wpList_appb {ops : Array Oper} {rest : List Oper} {o : Oper} {a : Act} {Q : Exit → Act → World → Prop} (hgd : o.guard = none) (s x : Operand)
    (ho : o.op = .call { callee := .builtin .append, args := #[s, x], argTypes := #[35, 35] })
    {B : Nat} {w0 w : World} {v : Value} {l : List Int} (hv : a.eval s = v) (H : OB B w0 w v l) {vx : Value} {m : List Int} (hx : a.eval x = vx) (L : BR w vx m) (hl : l.length + m.length ≤ 1000000000)
    (h : ∀ (ao : Option Addr) (n cap : Nat) (w' : World), n = l.length + m.length → OB B w0 w' (.slice ao n cap) (l ++ m) → wpList Try.prog ops Q rest (a.put o.dst (.slice ao n cap)) w') :
    wpList Try.prog ops Q (o :: rest) a w := by
  obtain ⟨i0, hi, hz0, hz1, hz2⟩ := info_parts Wr.Try.infoU8
  refine wpList_append_src _ hgd s x 35 35 ho B 5 i0 (.int .u8 0) 1 1 Try.underlying35 hi hz0 hz1 hz2 rfl (by decide) v l.length (Wr.bs l) hv H.2.2 vx m.length (Wr.bs m) hx L.src (by unfold maxLen; omega) (by omega) H.size ?_
  intro v2 w2 hown hg _ _
  obtain ⟨ao, cap, rfl⟩ := own_shape hown
  refine h ao _ cap w2 rfl ⟨H.1, H.2.1.grown hg H.size (fun k hk => (H.2.2.lt k hk).1), ?_⟩
  rw [List.length_append, Wr.bs_append]
  exact hown
theorem br_byte (w : World) (y : Int) : BR (w.alloc (.cells #[.int .u8 y] 5)) (.slice (some ⟨w.heap.size, 0, none⟩) 1 1) [y] := br_row (heap_alloc_new w _) rfl (by omega)

/-- Decode, its error as an argument. -/
theorem dec_c {ao : Option Addr} {n cap : Nat} {w : World} {l : List Int} (h : BR w (.slice ao n cap) l) (hr : ∀ y ∈ l, 0 ≤ y ∧ y ≤ 255) (hl : l.length ≤ 1000000000) {R : Option (List Tk)} (hR : dcd l = R) :
    Calls Try.prog 30 #[.slice ao n cap] w fun e w' => ∃ x k c, e = .returned (.tuple #[.slice x k c, .int .i64 (if R.isSome then 0 else 2)]) ∧ TRd w' (.slice x k c) (R.getD []) ∧ Below w.heap.size w w' := by
  subst hR; exact decode_any ao n cap l w h hr hl
theorem dec_ok {ao : Option Addr} {n cap : Nat} {w : World} {l : List Int} {D : List Tk} (h : BR w (.slice ao n cap) l) (hr : ∀ y ∈ l, 0 ≤ y ∧ y ≤ 255) (hl : l.length ≤ 1000000000) (hR : dcd l = some D) :
    Calls Try.prog 30 #[.slice ao n cap] w fun e w' => ∃ x k c, e = .returned (.tuple #[.slice x k c, .int .i64 0]) ∧ TRd w' (.slice x k c) D ∧ Below w.heap.size w w' := dec_c h hr hl hR
theorem dec_no {ao : Option Addr} {n cap : Nat} {w : World} {l : List Int} (h : BR w (.slice ao n cap) l) (hr : ∀ y ∈ l, 0 ≤ y ∧ y ≤ 255) (hl : l.length ≤ 1000000000) (hR : dcd l = none) :
    Calls Try.prog 30 #[.slice ao n cap] w fun e w' => ∃ x k c, e = .returned (.tuple #[.slice x k c, .int .i64 2]) ∧ Below w.heap.size w w' :=
  (dec_c h hr hl hR).mono fun e w' ⟨x, k, c, h1, _, h3⟩ => ⟨x, k, c, h1, h3⟩
end Go.Proofs.Ytofgmimdmgaljaa
