/- digest, Tag, Sign of package keyed once more: the bytes of the result may be written. Bounds on the sizes. -/
import Derived.Test.YtdgihleekemnnaaDoorKeySign
namespace Go.Proofs.YtdgihleekemnnaaDoor
open Go.RowKit

theorem bytes_frozen (w : World) (e : TypeId) (s : ByteArray) (j : Nat) (hj : j < s.size) : (Lib.bytesWorld w e s).frozen? ⟨w.heap.size, j, none⟩ = false := by
  have h : s.size ≤ (Lib.bytesCells w e s).size := by
    simp [Lib.bytesCells]
  simp [World.frozen?, Lib.bytesWorld_at_new]
  omega
section
variable {P : Program} (w : World)
/-- '[]byte(s)' at the operation: a row of its own that reads as the bytes. -/
theorem wpList_bytes_f {ops : Array Oper} {rest : List Oper} {o : Oper} {a : Act} {Q : Exit → Act → World → Prop} (hgd : o.guard = none) (src : TypeId) (x : Operand) (ho : o.op = .convert src 22 x)
    (hs : P.underlying src = some .string) (hd : P.underlying 22 = some (.slice 5)) (he : P.underlying 5 = some (.int .u8)) (l : List Int) (hl : ∀ y ∈ l, 0 ≤ y ∧ y ≤ 255) (hn : l.length ≤ maxLen) (hx : a.eval x = .string (strOfNums l))
    (h : ∀ cap w', Lies w' (.slice (some ⟨w.heap.size, 0, none⟩) l.length cap) l → (∀ j, j < l.length → w'.frozen? ⟨w.heap.size, j, none⟩ = false) → Below w.heap.size w w' → wpList P ops Q rest (a.put o.dst (.slice (some ⟨w.heap.size, 0, none⟩) l.length cap)) w') : wpList P ops Q (o :: rest) a w := by
  refine wpList_plain hgd fun _ hK => ?_
  have hr := Lib.run_convert_string_bytes (P := P) w src 22 5 (strOfNums l) hs hd he
  have hz : (strOfNums l).size = l.length := by simp [strOfNums, ByteArray.size]
  unfold Oper.wp execOp
  simp only [ho, hx, Sem.run_bind, hr, Result.andThen_ok, Sem.run_pure]
  refine hK _ _ ?_
  rw [hz]
  refine h _ _ ⟨_, _, rfl, grownCap_ge _ _ _ _, ?_, fun h0 => ⟨_, 0, rfl, ?_, fun j u hu => ?_⟩⟩ (fun j hj => bytes_frozen w _ _ j (by rw [hz]; exact hj)) ⟨rfl, rfl, rfl, ?_, fun k hk => Lib.bytesWorld_at_old _ _ _ k hk⟩
  · have := grownCap_le_maxLen w l.length 0 5 hn
    unfold maxLen at this; omega
  · rw [Lib.bytesWorld_size]; omega
  · have hj : j < l.length := by have := (List.getElem?_eq_some_iff.1 hu).1; simpa [bs] using this
    rw [Nat.zero_add, Lib.bytesWorld_cell _ _ _ _ (by rw [hz]; exact hj)]
    have e1 : (strOfNums l).data.toList.getD j 0 = UInt8.ofNat (l[j]).toNat := by
      rw [strOfNums_data]
      simp [List.getD, hj]
    rw [e1]
    have := hl _ (List.getElem_mem hj)
    simp only [bs, List.getElem?_map, List.getElem?_eq_getElem hj, Option.map_some, Option.some.injEq] at hu
    rw [← hu]
    simp
    omega
  · rw [Lib.bytesWorld_size]; omega
end

set_option maxRecDepth 100000 in
theorem kdigest_f (arr : Array Value) (blk : List Int) (v : Value) (l : List Int) (w : World) (harr : arr = (bs blk).toArray) (h64 : blk.length = 64) (hb : ∀ y ∈ blk, 0 ≤ y ∧ y ≤ 255) (h : Lies w v l) (hl : ∀ y ∈ l, 0 ≤ y ∧ y ≤ 255) (hG : Glob w) (hn : l.length ≤ 90000000000) :
    Calls Tryd.prog 27 #[.agg arr, v] w fun e w' => ∃ g cap, e = .returned (.slice (some ⟨g, 0, none⟩) 32 cap) ∧ w.heap.size ≤ g ∧ Lies w' (.slice (some ⟨g, 0, none⟩) 32 cap) (digest (blk ++ l)) ∧ (∀ j, j < 32 → w'.frozen? ⟨g, j, none⟩ = false) ∧ Below w.heap.size w w' := by
  have HARR := hid_of harr
  have H := hid_of h
  have HL := hid_of hl
  have HG := hid_of hG
  have H64 := hid_of h64
  have HBR := hid_of hb
  have H2 : Hid (2 ≤ w.heap.size) := hid_of hG.two
  obtain ⟨d, hd⟩ : ∃ d, d = digest (blk ++ l) := ⟨_, rfl⟩
  have HD := hid_of hd
  have HDL : Hid (d.length = 32) := hid_of (by rw [hd]; rfl)
  have HDR : Hid (∀ y ∈ d, 0 ≤ y ∧ y ≤ 255) := hid_of (by rw [hd]; exact digest_rng _)
  have HN := hid_of hn
  rw [← hd]
  clear harr h hl hG hb h64 hd hn
  go_enter Tryd.func27, Tryd.ntmps27
  go_wp2_with (first
    | (go_at_call 37; refine (new_any _ (HG.out.bel ((Below.refl w.heap.size w).alloc (Nat.le_refl _) _) H2.out)).mono ?_; rintro e w1 ⟨rfl, h1, hb1⟩; have HROW := hid_of ((hb1.block w.heap.size (by simp)).trans (heap_alloc_new w (.cells arr 46))); have HB1 := hid_of (((Below.refl w.heap.size w).alloc (Nat.le_refl _) (.cells arr 46)).trans (hb1.mono (by simp))); have H1 : Hid (Sst w1 (w.heap.size + 1) []) := hid_of (by simpa using h1); clear h1 hb1)
    | (go_at_call 38; (first
      | ((with_reducible refine (write_any (w.heap.size + 1) [] blk (.slice (some ⟨w.heap.size, 0, none⟩) 64 64) w1 H1.out (rest_arr HROW.out HARR.out H64.out (by omega)) HBR.out (HG.out.bel HB1.out H2.out) (by have := H2.out; omega) (by simp [H64.out])).mono ?_); (rintro e w2 ⟨rfl, h2, hk2⟩; have HS2 : Hid (Sst w2 (w.heap.size + 1) blk) := hid_of (by simpa using h2); have HB2 := hid_of (HB1.out.trans (hk2.below HB1.out.size (fun k hk => by omega))); clear h2 hk2))
      | ((with_reducible refine (write_any (w.heap.size + 1) blk l v w2 HS2.out (H.out.rest HB2.out (by omega)) HL.out (HG.out.bel HB2.out H2.out) (by have := H2.out; omega) (by have := H64.out; have := HN.out; omega)).mono ?_); (rintro e w3 ⟨rfl, h3, hk3⟩; have HS3 := hid_of h3; have HB3 := hid_of (HB2.out.trans (hk3.below HB2.out.size (fun k hk => by omega))); clear h3 hk3))))
    | (go_at_call 39; refine (sum_any (w.heap.size + 1) (blk ++ l) w3 HS3.out (HG.out.bel HB3.out H2.out) (by have := H64.out; have := HN.out; rw [List.length_append]; omega)).mono ?_; rw [← HD.out]; rintro e w4 ⟨rfl, hb4⟩; have HB4 := hid_of (HB3.out.trans (hb4.mono HB3.out.size)); clear hb4)
    | (refine wpList_bytes_f _ rfl 9 (.tmp 14) rfl Tryd.underlying9 Tryd.underlying22 Tryd.underlying5 d HDR.out (by rw [HDL.out]; unfold maxLen; omega) rfl ?_; intro cap w5 hL5 hf5 hb5; rw [HDL.out] at hL5 hf5 ⊢; have HF5 := hid_of hf5; have HL5 := hid_of hL5; have HB5 := hid_of (HB4.out.trans (hb5.mono HB4.out.size)); clear hL5 hb5 hf5))
  go_ret
  exact ⟨_, _, rfl, HB4.out.size, HL5.out, HF5.out, HB5.out⟩
set_option maxRecDepth 100000 in
theorem tag_f (v u : Value) (k m : List Int) (w : World) (hv : Lies w v k) (hu : Lies w u m) (hk : ∀ y ∈ k, 0 ≤ y ∧ y ≤ 255) (hm : ∀ y ∈ m, 0 ≤ y ∧ y ≤ 255) (hG : Glob w) (hn : k.length ≤ 80000000000) (hn2 : m.length ≤ 80000000000) :
    Calls Tryd.prog 12 #[v, u] w fun e w' => ∃ g cap, e = .returned (.slice (some ⟨g, 0, none⟩) 32 cap) ∧ w.heap.size ≤ g ∧ Lies w' (.slice (some ⟨g, 0, none⟩) 32 cap) (hmac k m) ∧ (∀ j, j < 32 → w'.frozen? ⟨g, j, none⟩ = false) ∧ Below w.heap.size w w' := by
  obtain ⟨arr, harr⟩ : ∃ arr, arr = (bs (keyBlock k)).toArray := ⟨_, rfl⟩
  obtain ⟨ai, hai⟩ : ∃ ai, ai = (bs (xr 54 (keyBlock k))).toArray := ⟨_, rfl⟩
  obtain ⟨ao, hao⟩ : ∃ ao, ao = (bs (xr 92 (keyBlock k))).toArray := ⟨_, rfl⟩
  have HARR := hid_of harr
  have HAI := hid_of hai
  have HAO := hid_of hao
  have HSZ : Hid (arr.size = 64) := hid_of (by rw [harr]; simpa [bs] using keyBlock_length k)
  have HI : Hid ((Tryd.prog.info? 46).map (·.size) = some arr.size) := hid_of (by rw [HSZ.out]; exact Tryd.infoB)
  have H1 : Hid (arr.all (·.oneCell') = true) := hid_of (by rw [harr]; exact bs_oneCell _)
  have HV := hid_of hv
  have HU := hid_of hu
  have HK := hid_of hk
  have HM := hid_of hm
  have HG := hid_of hG
  have H2 : Hid (2 ≤ w.heap.size) := hid_of hG.two
  have HN := hid_of hn
  have HN2 := hid_of hn2
  have HKR := hid_of (keyBlock_rng k hk)
  have HKL := hid_of (keyBlock_length k)
  have HXI : Hid (∀ y ∈ xr 54 (keyBlock k), 0 ≤ y ∧ y ≤ 255) := hid_of (xr_rng 54 _ (by omega) (keyBlock_rng k hk))
  have HXO : Hid (∀ y ∈ xr 92 (keyBlock k), 0 ≤ y ∧ y ≤ 255) := hid_of (xr_rng 92 _ (by omega) (keyBlock_rng k hk))
  clear harr hai hao hv hu hk hm hG hn hn2
  have hmf : ∀ (fn : Fn) (first cap : Array Value) (w : World), (Instr.makeFunc fn first cap).run Tryd.prog w = .ok (.func fn first cap) w := fun _ _ _ _ => rfl
  have hz := (zero_of_info Tryd.zero64).1
  go_enter Tryd.func12, Tryd.ntmps12
  go_wp2_with (first
    | (go_at_call 25; refine (kblock_any v k w HV.out HK.out HG.out (by have := HN.out; omega)).mono ?_; rw [← HARR.out]; rintro e w1 ⟨rfl, hb1⟩; have HB1 := hid_of hb1; have HRW := hid_of (heap_alloc_new w1 (.cells arr 46)); have HB2 := hid_of (hb1.alloc hb1.size (.cells arr 46)); clear hb1)
    | (refine wpList_store_fresh rfl 46 (.tmp 5) (.tmp 9) rfl _ arr rfl rfl rfl _ HI.out (by rw [HSZ.out]; rfl) H1.out ?_)
    | (go_at_call 26; (first
      | ((with_reducible refine (ktag1_any w1.heap.size arr (keyBlock k) 54 (w1.alloc (.cells arr 46)) HRW.out HARR.out HKL.out HKR.out (by omega)).mono ?_); (rw [← HAI.out]; rintro e w3 ⟨rfl, hb3⟩; have HR3 := hid_of ((hb3.block _ (lt_of_block HRW.out)).trans HRW.out); have HB3 := hid_of (HB2.out.trans (hb3.mono HB2.out.size)); clear hb3))
      | ((with_reducible refine (ktag1_any w1.heap.size arr (keyBlock k) 92 w4 HR4.out HARR.out HKL.out HKR.out (by omega)).mono ?_); (rw [← HAO.out]; rintro e w5 ⟨rfl, hb5⟩; have HL5 := hid_of (HL4.out.later hb5 (Nat.le_refl _)); have HB5 := hid_of (HB4.out.trans (hb5.mono HB4.out.size)); clear hb5))))
    | (go_at_call 27; (first
      | ((with_reducible refine (kdigest_any ai (xr 54 (keyBlock k)) u m w3 HAI.out (by rw [xr_length]; exact HKL.out) HXI.out (HU.out.later HB3.out (Nat.le_refl _)) HM.out (HG.out.bel HB3.out H2.out) (by have := HN2.out; omega)).mono ?_); (rintro e w4 ⟨g4, cap4, rfl, hg4, hl4, hb4⟩; have HL4 := hid_of hl4; have HR4 := hid_of ((hb4.block _ (lt_of_block HR3.out)).trans HR3.out); have HB4 := hid_of (HB3.out.trans (hb4.mono HB3.out.size)); clear hl4 hb4 hg4))
      | ((with_reducible refine (kdigest_f ao (xr 92 (keyBlock k)) (.slice (some ⟨g4, 0, none⟩) 32 cap4) (digest (xr 54 (keyBlock k) ++ m)) w5 HAO.out (by rw [xr_length]; exact HKL.out) HXO.out HL5.out (digest_rng _) (HG.out.bel HB5.out H2.out) (by rw [digest_length]; omega)).mono ?_); (rintro e w6 ⟨g6, cap6, rfl, hg6, hl6, hf6, hb6⟩; have HF6 := hid_of hf6; have HL6 := hid_of hl6; have HB6 := hid_of (HB5.out.trans (hb6.mono HB5.out.size)); have HG6 := hid_of (Nat.le_trans HB5.out.size hg6); clear hl6 hb6 hg6 hf6)))))
  go_ret
  exact ⟨_, _, rfl, HG6.out, HL6.out, HF6.out, HB6.out⟩
set_option maxRecDepth 100000 in
theorem mtag_f {B : Nat} (b : Nat) (k m : List Int) (p h q x : Int) (u : Value) (w : World) (hm : Mst B w b k p h) (hk : ∀ y ∈ k, 0 ≤ y ∧ y ≤ 255) (hu : Lies w u m) (hmr : ∀ y ∈ m, 0 ≤ y ∧ y ≤ 255) (hq : R64 q) (hx : R64 x) (hG : Glob w) (hn : k.length ≤ 80000000000) (hn2 : m.length ≤ 80000000000) :
    Calls Tryd.prog 35 #[.pointer (some ⟨b, 0, none⟩), .int .i64 q, .int .i64 x, u] w fun e w' => ∃ g cap, e = .returned (.slice (some ⟨g, 0, none⟩) 32 cap) ∧ w.heap.size ≤ g ∧ Lies w' (.slice (some ⟨g, 0, none⟩) 32 cap) (hmac (derive k q x) m) ∧ (∀ j, j < 32 → w'.frozen? ⟨g, j, none⟩ = false) ∧ Below w.heap.size w w' := by
  obtain ⟨hB, g, n, hkn, hr, hne, hBg, hl⟩ := hm
  have c : w.cell? ⟨b, 0, none⟩ = some (.slice (some ⟨g, 0, none⟩) n n) := cell_of_row _ _ 0 _ _ _ hr
  have HL := hid_of hl
  have HK := hid_of hk
  have HU := hid_of hu
  have HMR := hid_of hmr
  have HQ := hid_of hq
  have HX := hid_of hx
  have HG := hid_of hG
  have H2 : Hid (2 ≤ w.heap.size) := hid_of hG.two
  have HN := hid_of hn
  have HN2 := hid_of hn2
  clear hB hBg hkn hr hne hl hk hu hmr hq hx hG hn hn2
  go_enter Tryd.func35, Tryd.ntmps35
  go_wp2_with (first
    | (go_at_call 14; refine (derive_any (.slice (some ⟨g, 0, none⟩) n n) k q x w HL.out HK.out HQ.out HX.out HG.out HN.out).mono ?_; rintro e w1 ⟨g1, c1, rfl, hg1, hl1, hb1⟩; have HL1 := hid_of hl1; have HB1 := hid_of hb1; clear hg1 hl1 hb1)
    | (go_at_call 12; refine (tag_f (.slice (some ⟨g1, 0, none⟩) 32 c1) u (derive k q x) m w1 HL1.out (HU.out.later HB1.out (Nat.le_refl _)) (hmac_rng _ _) HMR.out (HG.out.bel HB1.out H2.out) (by rw [derive, hmac_length]; omega) HN2.out).mono ?_; rintro e w2 ⟨g2, c2, rfl, hg2, hl2, hf2, hb2⟩; have HF2 := hid_of hf2; have HG2 := hid_of (Nat.le_trans HB1.out.size hg2); have HL2 := hid_of hl2; have HB2 := hid_of (HB1.out.trans (hb2.mono HB1.out.size)); clear hg2 hl2 hb2 hf2))
  go_ret
  exact ⟨_, _, rfl, HG2.out, HL2.out, HF2.out, HB2.out⟩
theorem sign_f {B : Nat} (b : Nat) (k m : List Int) (p h x : Int) (u : Value) (w : World) (hm : Mst B w b k p h) (hx0 : ¬ x < 0) (hs : ¬ x < h) (hk : ∀ y ∈ k, 0 ≤ y ∧ y ≤ 255) (hu : Lies w u m) (hmr : ∀ y ∈ m, 0 ≤ y ∧ y ≤ 255) (hp : R64 p) (hx : R64 x) (hG : Glob w) (hn : k.length ≤ 80000000000) (hn2 : m.length ≤ 80000000000) :
    Calls Tryd.prog 20 #[.pointer (some ⟨b, 0, none⟩), .int .i64 x, u] w fun e w' => ∃ g cap, e = .returned (.tuple #[.slice (some ⟨g, 0, none⟩) 32 cap, .int .i64 0]) ∧ w.heap.size ≤ g ∧ Lies w' (.slice (some ⟨g, 0, none⟩) 32 cap) (hmac (derive k p x) m) ∧ (∀ j, j < 32 → w'.frozen? ⟨g, j, none⟩ = false) ∧ Below w.heap.size w w' := by
  have HT := hid_of (mtag_f b k m p h p x u w hm hk hu hmr hp hx hG hn hn2)
  obtain ⟨hB, g, n, hkn, hr, hne, hBg, hl⟩ := hm
  have c : w.cell? ⟨b, 2, none⟩ = some (.int .i64 h) := cell_of_row _ _ 2 _ _ _ hr
  have c1 : w.cell? ⟨b, 1, none⟩ = some (.int .i64 p) := cell_of_row _ _ 1 _ _ _ hr
  clear hB hBg hkn hr hne hl hk hu hmr hp hx hG hn hn2
  have hd : decide (x < 0) = false := by simp; omega
  have hd2 : decide (x < h) = false := by simp; omega
  go_enter Tryd.func20, Tryd.ntmps20
  go_wp2_with (first
    | (go_at_call 35; refine HT.out.mono ?_; rintro e w2 ⟨g2, c2, rfl, hg2, hl2, hf2, hb2⟩; have HF2 := hid_of hf2; have HG2 := hid_of hg2; have HL2 := hid_of hl2; have HB2 := hid_of hb2; clear hg2 hl2 hb2 hf2))
  go_ret2
  exact ⟨_, _, rfl, HG2.out, HL2.out, HF2.out, HB2.out⟩

end Go.Proofs.YtdgihleekemnnaaDoor
