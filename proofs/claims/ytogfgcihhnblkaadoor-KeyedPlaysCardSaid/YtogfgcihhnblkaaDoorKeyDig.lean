/- digest of package keyed. Bounds on the sizes. -/
import Derived.Test.YtogfgcihhnblkaaDoorShaDig
import Derived.Lib.ConvBytes
namespace Go.Proofs.YtogfgcihhnblkaaDoor
open Go.RowKit

section
variable {P : Program} (w : World)
/-- '[]byte(s)' at the operation: a row of its own that reads as the bytes. -/
theorem wpList_bytes {ops : Array Oper} {rest : List Oper} {o : Oper} {a : Act} {Q : Exit → Act → World → Prop} (hgd : o.guard = none) (src : TypeId) (x : Operand) (ho : o.op = .convert src 22 x)
    (hs : P.underlying src = some .string) (hd : P.underlying 22 = some (.slice 5)) (he : P.underlying 5 = some (.int .u8)) (l : List Int) (hl : ∀ y ∈ l, 0 ≤ y ∧ y ≤ 255) (hn : l.length ≤ maxLen) (hx : a.eval x = .string (strOfNums l))
    (h : ∀ cap w', Lies w' (.slice (some ⟨w.heap.size, 0, none⟩) l.length cap) l → Below w.heap.size w w' → wpList P ops Q rest (a.put o.dst (.slice (some ⟨w.heap.size, 0, none⟩) l.length cap)) w') : wpList P ops Q (o :: rest) a w := by
  refine wpList_plain hgd fun _ hK => ?_
  have hr := Lib.run_convert_string_bytes (P := P) w src 22 5 (strOfNums l) hs hd he
  have hz : (strOfNums l).size = l.length := by simp [strOfNums, ByteArray.size]
  unfold Oper.wp execOp
  simp only [ho, hx, Sem.run_bind, hr, Result.andThen_ok, Sem.run_pure]
  refine hK _ _ ?_
  rw [hz]
  refine h _ _ ⟨_, _, rfl, grownCap_ge _ _ _ _, ?_, fun h0 => ⟨_, 0, rfl, ?_, fun j u hu => ?_⟩⟩ ⟨rfl, rfl, rfl, ?_, fun k hk => Lib.bytesWorld_at_old _ _ _ k hk⟩
  · have := grownCap_le_maxLen w l.length 0 5 hn
    unfold maxLen at this; omega
  · rw [Lib.bytesWorld_size]; omega
  · have hj : j < l.length := by have := (List.getElem?_eq_some_iff.1 hu).1; simpa [bs] using this
    rw [Nat.zero_add, Lib.bytesWorld_cell _ _ _ _ (by rw [hz]; exact hj)]
    have e1 : (strOfNums l).data.toList.getD j 0 = UInt8.ofNat (l[j]).toNat := by
      rw [strOfNums_data]
      simp [List.getD, hj]
    rw [e1]
    have := hl _ (List.getElem_mem hj)
    simp only [bs, List.getElem?_map, List.getElem?_eq_getElem hj, Option.map_some, Option.some.injEq] at hu
    rw [← hu]
    simp
    omega
  · rw [Lib.bytesWorld_size]; omega
end

theorem digestOf_rng (s : R8) (h : s.ok) : ∀ y ∈ digestOf s, 0 ≤ y ∧ y ≤ 255 := by
  obtain ⟨h1, h2, h3, h4, h5, h6, h7, h8⟩ := h
  have hw : ∀ x y : Int, y ∈ wordBytes x → 0 ≤ y ∧ y ≤ 255 := fun x y hy => by
    simp only [wordBytes, List.mem_cons, List.not_mem_nil, or_false] at hy
    omega
  intro y hy
  simp only [digestOf, List.mem_append] at hy
  rcases hy with hy | hy | hy | hy | hy | hy | hy | hy <;> exact hw _ _ hy
theorem digest_rng (m : List Int) : ∀ y ∈ digest m, 0 ≤ y ∧ y ≤ 255 := digestOf_rng _ (HB_ok _)
theorem digest_length (m : List Int) : (digest m).length = 32 := rfl
theorem rest_arr {w : World} {b g t : Nat} {arr : Array Value} {blk : List Int} (h : w.heap[g]? = some (.cells arr t (0, 0))) (harr : arr = (bs blk).toArray) (h64 : blk.length = 64) (hgb : g ≠ b) : Rest w b (.slice (some ⟨g, 0, none⟩) 64 64) blk := by
  subst harr
  refine ⟨_, 64, by rw [h64], by omega, by omega, fun _ => ⟨g, 0, rfl, hgb, lt_of_block h, fun j u hu => ?_⟩⟩
  rw [Nat.zero_add, cell_of_row _ _ _ _ _ _ h]
  simpa using hu

set_option maxRecDepth 100000 in
theorem kdigest_any (arr : Array Value) (blk : List Int) (v : Value) (l : List Int) (w : World) (harr : arr = (bs blk).toArray) (h64 : blk.length = 64) (hb : ∀ y ∈ blk, 0 ≤ y ∧ y ≤ 255) (h : Lies w v l) (hl : ∀ y ∈ l, 0 ≤ y ∧ y ≤ 255) (hG : Glob w) (hn : l.length ≤ 90000000000) :
    Calls Tryd.prog 27 #[.agg arr, v] w fun e w' => ∃ g cap, e = .returned (.slice (some ⟨g, 0, none⟩) 32 cap) ∧ w.heap.size ≤ g ∧ Lies w' (.slice (some ⟨g, 0, none⟩) 32 cap) (digest (blk ++ l)) ∧ Below w.heap.size w w' := by
  have HARR := hid_of harr
  have H := hid_of h
  have HL := hid_of hl
  have HG := hid_of hG
  have H64 := hid_of h64
  have HBR := hid_of hb
  have H2 : Hid (2 ≤ w.heap.size) := hid_of hG.two
  obtain ⟨d, hd⟩ : ∃ d, d = digest (blk ++ l) := ⟨_, rfl⟩
  have HD := hid_of hd
  have HDL : Hid (d.length = 32) := hid_of (by rw [hd]; rfl)
  have HDR : Hid (∀ y ∈ d, 0 ≤ y ∧ y ≤ 255) := hid_of (by rw [hd]; exact digest_rng _)
  have HN := hid_of hn
  rw [← hd]
  clear harr h hl hG hb h64 hd hn
  go_enter Tryd.func27, Tryd.ntmps27
  go_wp2_with (first
    | (go_at_call 37; refine (new_any _ (HG.out.bel ((Below.refl w.heap.size w).alloc (Nat.le_refl _) _) H2.out)).mono ?_; rintro e w1 ⟨rfl, h1, hb1⟩; have HROW := hid_of ((hb1.block w.heap.size (by simp)).trans (heap_alloc_new w (.cells arr 46))); have HB1 := hid_of (((Below.refl w.heap.size w).alloc (Nat.le_refl _) (.cells arr 46)).trans (hb1.mono (by simp))); have H1 : Hid (Sst w1 (w.heap.size + 1) []) := hid_of (by simpa using h1); clear h1 hb1)
    | (go_at_call 38; (first
      | ((with_reducible refine (write_any (w.heap.size + 1) [] blk (.slice (some ⟨w.heap.size, 0, none⟩) 64 64) w1 H1.out (rest_arr HROW.out HARR.out H64.out (by omega)) HBR.out (HG.out.bel HB1.out H2.out) (by have := H2.out; omega) (by simp [H64.out])).mono ?_); (rintro e w2 ⟨rfl, h2, hk2⟩; have HS2 : Hid (Sst w2 (w.heap.size + 1) blk) := hid_of (by simpa using h2); have HB2 := hid_of (HB1.out.trans (hk2.below HB1.out.size (fun k hk => by omega))); clear h2 hk2))
      | ((with_reducible refine (write_any (w.heap.size + 1) blk l v w2 HS2.out (H.out.rest HB2.out (by omega)) HL.out (HG.out.bel HB2.out H2.out) (by have := H2.out; omega) (by have := H64.out; have := HN.out; omega)).mono ?_); (rintro e w3 ⟨rfl, h3, hk3⟩; have HS3 := hid_of h3; have HB3 := hid_of (HB2.out.trans (hk3.below HB2.out.size (fun k hk => by omega))); clear h3 hk3))))
    | (go_at_call 39; refine (sum_any (w.heap.size + 1) (blk ++ l) w3 HS3.out (HG.out.bel HB3.out H2.out) (by have := H64.out; have := HN.out; rw [List.length_append]; omega)).mono ?_; rw [← HD.out]; rintro e w4 ⟨rfl, hb4⟩; have HB4 := hid_of (HB3.out.trans (hb4.mono HB3.out.size)); clear hb4)
    | (refine wpList_bytes _ rfl 9 (.tmp 14) rfl Tryd.underlying9 Tryd.underlying22 Tryd.underlying5 d HDR.out (by rw [HDL.out]; unfold maxLen; omega) rfl ?_; intro cap w5 hL5 hb5; rw [HDL.out] at hL5 ⊢; have HL5 := hid_of hL5; have HB5 := hid_of (HB4.out.trans (hb5.mono HB4.out.size)); clear hL5 hb5))
  go_ret
  exact ⟨_, _, rfl, HB4.out.size, HL5.out, HB5.out⟩
end Go.Proofs.YtogfgcihhnblkaaDoor
