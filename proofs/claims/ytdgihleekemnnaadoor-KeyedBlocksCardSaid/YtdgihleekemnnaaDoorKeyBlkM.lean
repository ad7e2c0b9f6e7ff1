/- KeyedBlocks: equal blocks, and append inside a region. -/
import Derived.Test.YtdgihleekemnnaaDoorKeyShort
import Derived.Test.YtdgihleekemnnaaDoorShaApp
import Derived.Deep.AppendLies
namespace Go.Proofs.YtdgihleekemnnaaDoor
open Go.RowKit

theorem keyBlock_digest {k : List Int} (h : 64 < k.length) : keyBlock (digest k) = keyBlock k := by
  have e : keyOf (digest k) = keyOf k := by
    unfold keyOf
    rw [if_pos h, if_neg (by rw [digest_length]; omega)]
  unfold keyBlock
  rw [e]
theorem keyBlock_zero {k : List Int} (h : k.length < 64) : keyBlock (k ++ [0]) = keyBlock k := by
  unfold keyBlock keyOf
  rw [if_neg (by simp; omega), if_neg (by omega), List.append_assoc, List.length_append]
  congr 1
  rw [show 64 - k.length = (64 - (k.length + [0].length)) + 1 by simp; omega, List.replicate_succ]
  rfl
theorem hmac_long {k : List Int} (m : List Int) (h : 64 < k.length) : hmac (digest k) m = hmac k m := by unfold hmac; rw [keyBlock_digest h]
theorem hmac_zero {k : List Int} (m : List Int) (h : k.length < 64) : hmac (k ++ [0]) m = hmac k m := by unfold hmac; rw [keyBlock_zero h]

/-- '[]byte(s)': the row that it makes. -/
theorem bytes_lies (w : World) (l : List Int) (hl : ∀ y ∈ l, 0 ≤ y ∧ y ≤ 255) (hn : l.length ≤ maxLen) :
    (convert 9 22 (.string (strOfNums l))).run Tryd.prog w = .ok (.slice (some ⟨w.heap.size, 0, none⟩) l.length (grownCap w l.length 0 5)) (Lib.bytesWorld w 5 (strOfNums l)) ∧
    Lies (Lib.bytesWorld w 5 (strOfNums l)) (.slice (some ⟨w.heap.size, 0, none⟩) l.length (grownCap w l.length 0 5)) l ∧ Below w.heap.size w (Lib.bytesWorld w 5 (strOfNums l)) := by
  have hz : (strOfNums l).size = l.length := by simp [strOfNums, ByteArray.size]
  refine ⟨by rw [Lib.run_convert_string_bytes (P := Tryd.prog) w 9 22 5 (strOfNums l) Tryd.underlying9 Tryd.underlying22 Tryd.underlying5, hz], ⟨_, _, rfl, grownCap_ge _ _ _ _, ?_, fun h0 => ⟨_, 0, rfl, ?_, fun j u hu => ?_⟩⟩, ⟨rfl, rfl, rfl, ?_, fun k hk => Lib.bytesWorld_at_old _ _ _ k hk⟩⟩
  · have := grownCap_le_maxLen w l.length 0 5 hn
    unfold maxLen at this; omega
  · rw [Lib.bytesWorld_size]; omega
  · have hj : j < l.length := by have := (List.getElem?_eq_some_iff.1 hu).1; simpa [bs] using this
    rw [Nat.zero_add, Lib.bytesWorld_cell _ _ _ _ (by rw [hz]; exact hj)]
    have e1 : (strOfNums l).data.toList.getD j 0 = UInt8.ofNat (l[j]).toNat := by
      rw [strOfNums_data]
      simp [List.getD, hj]
    rw [e1]
    have := hl _ (List.getElem_mem hj)
    simp only [bs, List.getElem?_map, List.getElem?_eq_getElem hj, Option.map_some, Option.some.injEq] at hu
    rw [← hu]
    simp
    omega
  · rw [Lib.bytesWorld_size]; omega

/-- A row in a block of its own, behind an append to another. -/
theorem Lies.grown {w w' : World} {g o n c : Nat} {row : Option Nat} {l : List Int} (h : Lies w (.slice (some ⟨g, o, none⟩) n c) l) (hg : w.grownBy w' row) (hne : some g ≠ row) : Lies w' (.slice (some ⟨g, o, none⟩) n c) l := by
  obtain ⟨ao, cap, q1, q2, q3, q4⟩ := h
  refine ⟨ao, cap, q1, q2, q3, fun h0 => ?_⟩
  obtain ⟨g', o', r1, r2, r3⟩ := q4 h0
  simp only [Value.slice.injEq] at q1
  have e : g' = g := by rw [r1] at q1; simp at q1; omega
  subst e
  exact ⟨g', o', r1, Nat.lt_of_lt_of_le r2 hg.size, fun j u hu => (hg.cell_far ⟨g', o' + j, none⟩ r2 hne).trans (r3 j u hu)⟩
/-- append of a row, inside a region that draws its order. -/
theorem step_appk {w : World} {ops : Array Oper} {o : Oper} {a : Act} {K : Act → World → Prop} {Q : Exit → Act → World → Prop} {F : Prop} (hgd : o.guard = none) (s x : Operand)
    (ho : o.op = .call { callee := .builtin .append, args := #[s, x], argTypes := #[22, 22] })
    {B : Nat} {w0 : World} {v : Value} {l : List Int} (hv : a.eval s = v) (H : OS B w0 w v l) {vx : Value} {m : List Int} (hx : a.eval x = vx) (L : Lies w vx m) (hl : l.length + m.length ≤ 1000000000)
    (h : ∀ (ao : Option Addr) (n cap : Nat) (w' : World), n = l.length + m.length → OS B w0 w' (.slice ao n cap) (l ++ m) → w.grownBy w' v.ownBlock → K (a.put o.dst (.slice ao n cap)) w') :
    if Region.wanted o (yielded ops a.tmps) = true then Oper.wp Tryd.prog o a w K Q else F := by
  obtain ⟨i0, hi, hz0, hz1, hz2⟩ := info_parts Tryd.infoU8
  refine step_append_src _ hgd s x 22 22 ho B 5 i0 (.int .u8 0) 1 1 Tryd.underlying22 hi hz0 hz1 hz2 rfl (by decide) v l.length (bs l) hv H.own vx m.length (bs m) hx L.srcs (by unfold maxLen; omega) (by omega) H.size ?_
  intro v2 w2 hown hg _ _
  have H2 := H.app hown rfl hg
  obtain ⟨ao, cap, rfl⟩ := own_shape hown
  exact h ao _ cap w2 rfl (by rw [← List.length_append] at H2 ⊢; exact H2) hg
end Go.Proofs.YtdgihleekemnnaaDoor
