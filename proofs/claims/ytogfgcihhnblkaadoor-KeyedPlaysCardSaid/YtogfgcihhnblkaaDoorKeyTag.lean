/- blockOf and Tag: HMAC. Bounds on the sizes. -/
import Derived.Test.YtogfgcihhnblkaaDoorKeyXor
import Derived.Lib.BufferWrite
namespace Go.Proofs.YtogfgcihhnblkaaDoor
open Go.RowKit

theorem strBytes_cells (l : List Int) (hl : ∀ y ∈ l, 0 ≤ y ∧ y ≤ 255) : Lib.byteCells (strOfNums l).data.toList = bs l := by
  unfold Lib.byteCells bs
  rw [strOfNums_data, List.map_map]
  refine List.map_congr_left fun y hy => ?_
  have := hl y hy
  simp
  omega
/-- A key, or the digest of a long one. -/
def keyOf (k : List Int) : List Int := if 64 < k.length then digest k else k
/-- .. filled up to 64 bytes. -/
def keyBlock (k : List Int) : List Int := keyOf k ++ List.replicate (64 - (keyOf k).length) 0
theorem keyOf_length (k : List Int) : (keyOf k).length ≤ 64 := by
  unfold keyOf
  split
  · rw [digest_length]; omega
  · omega
theorem keyBlock_length (k : List Int) : (keyBlock k).length = 64 := by
  have := keyOf_length k
  unfold keyBlock; simp; omega
theorem keyOf_rng (k : List Int) (h : ∀ y ∈ k, 0 ≤ y ∧ y ≤ 255) : ∀ y ∈ keyOf k, 0 ≤ y ∧ y ≤ 255 := by
  unfold keyOf
  split
  · exact digest_rng _
  · exact h
theorem keyBlock_rng (k : List Int) (h : ∀ y ∈ k, 0 ≤ y ∧ y ≤ 255) : ∀ y ∈ keyBlock k, 0 ≤ y ∧ y ≤ 255 := by
  intro y hy
  simp only [keyBlock, List.mem_append, List.mem_replicate] at hy
  rcases hy with hy | ⟨_, rfl⟩
  · exact keyOf_rng k h y hy
  · omega
/-- HMAC. -/
def hmac (k m : List Int) : List Int := digest (xr 92 (keyBlock k) ++ digest (xr 54 (keyBlock k) ++ m))
theorem hmac_length (k m : List Int) : (hmac k m).length = 32 := rfl
theorem hmac_rng (k m : List Int) : ∀ y ∈ hmac k m, 0 ≤ y ∧ y ≤ 255 := digest_rng _
theorem splice_block (l : List Int) (h : l.length ≤ 64) : splice (bs (List.replicate 64 0)) 0 (bs l) = bs (l ++ List.replicate (64 - l.length) 0) := by
  unfold splice bs
  rw [List.take_zero, List.nil_append, List.length_map, Nat.zero_add, List.map_append, List.map_replicate, List.map_replicate, List.drop_replicate]

theorem kcopy_str (w : World) (g : Nat) (k : List Int) (out : Array Value) (hout : out = (splice (bs (List.replicate 64 0)) 0 (bs (digest k))).toArray) (h : w.heap[g]? = some (.cells (bs (List.replicate 64 0)).toArray 46 (0, 0))) :
    (Builtin.copy_ #[22, 9] 3 #[.slice (some ⟨g, 0, none⟩) 64 64, .string (strOfNums (digest k))]).run Tryd.prog w = .ok (goInt 32) (w.setRow g out) := by
  have hz : (strOfNums (digest k)).size = 32 := by simp [strOfNums, ByteArray.size]; rfl
  have := Lib.run_copy_row_string (P := Tryd.prog) w 22 9 3 5 g 0 64 64 (strOfNums (digest k)) _ _ Tryd.underlying22 Tryd.sizeU8 h (by rw [hz]; omega) (by rw [hz]; simp [bs])
  rw [this, hz, strBytes_cells _ (digest_rng k), hout]
  have e : (bs (digest k)).length = 32 := by rw [bs_length]; rfl
  unfold splice
  rw [e]
  simp only [List.append_assoc]
  rfl

set_option maxRecDepth 100000 in
theorem kblock_any (v : Value) (k : List Int) (w : World) (h : Lies w v k) (hl : ∀ y ∈ k, 0 ≤ y ∧ y ≤ 255) (hG : Glob w) (hn : k.length ≤ 90000000000) :
    Calls Tryd.prog 25 #[v] w fun e w' => e = .returned (.agg (bs (keyBlock k)).toArray) ∧ Below w.heap.size w w' := by
  obtain ⟨out, hout⟩ : ∃ out, out = (bs (keyBlock k)).toArray := ⟨_, rfl⟩
  rw [← hout]
  have HOUT := hid_of hout
  have HOS : Hid (out.size = 64) := hid_of (by rw [hout]; simpa [bs] using keyBlock_length k)
  have HIO : Hid ((Tryd.prog.info? 46).map (·.size) = some out.size) := hid_of (by rw [HOS.out]; exact Tryd.infoB)
  have H1O : Hid (out.all (·.oneCell') = true) := hid_of (by rw [hout]; exact bs_oneCell _)
  have H := hid_of h
  have HL := hid_of hl
  have HG := hid_of hG
  have H2 : Hid (2 ≤ w.heap.size) := hid_of hG.two
  have HN := hid_of hn
  obtain ⟨w1, hw1⟩ : ∃ w1, w1 = w.alloc (.cells zero64 46) := ⟨_, rfl⟩
  have HS1 : Hid (w1.heap.size = w.heap.size + 1) := hid_of (by rw [hw1]; simp)
  have HB1 : Hid (Below w.heap.size w w1) := hid_of (by rw [hw1]; exact (Below.refl w.heap.size w).alloc (Nat.le_refl _) _)
  have HR1 : Hid (w1.heap[w.heap.size]? = some (.cells zero64 46 (0, 0))) := hid_of (by rw [hw1]; exact heap_alloc_new _ _)
  have HQ : Hid ((w1.alloc (.cells zero64 46)).heap[w.heap.size + 1]? = some (.cells (bs (List.replicate 64 0)).toArray 46 (0, 0))) := hid_of (by rw [← HS1.out]; exact heap_alloc_new _ _)
  have HBA : Hid (Below (w.heap.size + 1) w1 (w1.alloc (.cells zero64 46))) := hid_of ((Below.refl _ w1).alloc (by rw [HS1.out]; omega) _)
  subst hw1
  obtain ⟨ao, cap, hv, hc1, hc2, hsrc⟩ := h
  subst hv
  obtain ⟨n, hnn⟩ : ∃ n, n = k.length := ⟨_, rfl⟩
  have HNN := hid_of hnn
  rw [← hnn] at H hc1 hn hsrc ⊢
  have HSRC := hid_of hsrc
  clear hout hl hG hnn hsrc
  have hz := (zero_of_info Tryd.zero64).1
  go_enter Tryd.func25, Tryd.ntmps25
  by_cases hlong : 64 < n
  · have hd : decide ((n : Int) > 64) = true := by simp; omega
    have HK : Hid (keyOf k = digest k) := hid_of (by unfold keyOf; rw [if_pos (by rw [← HNN.out]; exact hlong)])
    have HBK : Hid (out = (splice (bs (List.replicate 64 0)) 0 (bs (digest k))).toArray) := hid_of (by rw [HOUT.out, splice_block (digest k) (by rw [digest_length]; omega)]; unfold keyBlock; rw [HK.out])
    have HLD : Hid (Lies ((w.alloc (.cells zero64 46)).alloc (.cells zero64 46)).drew (.slice ao n cap) k) := hid_of (H.out.later (HB1.out.trans (HBA.out.mono (Nat.le_succ _))).drew (Nat.le_refl _))
    have HGD : Hid (Glob ((w.alloc (.cells zero64 46)).alloc (.cells zero64 46)).drew) := hid_of (HG.out.bel (HB1.out.trans (HBA.out.mono (Nat.le_succ _))).drew H2.out)
    have HBD : Hid (Below w.heap.size w ((w.alloc (.cells zero64 46)).alloc (.cells zero64 46)).drew) := hid_of (HB1.out.trans (HBA.out.mono (Nat.le_succ _))).drew
    go_wp2
    go_region_with (go_at_call 24; (refine (sumf_any (.slice ao n cap) k _ HLD.out HL.out HGD.out (by have := HN.out; omega)).mono ?_; rintro e w3 ⟨rfl, hb3⟩; have HQ3 := hid_of ((hb3.block (w.heap.size + 1) (lt_of_block HQ.out)).trans HQ.out); have HR3 := hid_of ((hb3.block w.heap.size (Nat.lt_of_lt_of_le (lt_of_block HR1.out) HBA.out.size)).trans ((HBA.out.block _ (Nat.lt_succ_self _)).trans HR1.out)); have HB3 := hid_of (HBD.out.trans (hb3.mono HBD.out.size)); clear hb3; have hcp : (Builtin.copy_ #[22, 9] 3 #[.slice (some ⟨w.heap.size + 1, 0, none⟩) 64 64, .string (strOfNums (digest k))]).run Tryd.prog w3 = .ok (goInt 32) (w3.setRow (w.heap.size + 1) out) := kcopy_str w3 (w.heap.size + 1) k out HBK.out HQ3.out))
    have HX := hid_of (setRow_heap w3 (w.heap.size + 1) _ out _ _ HQ3.out)
    have HRX := hid_of ((setRow_other w3 (w.heap.size + 1) w.heap.size out (by omega)).trans HR3.out)
    have HBX := hid_of (below_setRow HB3.out (Nat.le_succ _) out)
    generalize w3.setRow (w.heap.size + 1) out = w5 at *
    go_wp2_with (first
      | (refine wpList_load_row rfl 46 (.tmp 3) rfl (w.heap.size + 1) rfl 46 out (0, 0) _ HX.out Tryd.underlying46 rfl HIO.out ?_)
      | (refine wpList_store_row rfl 46 (.tmp 2) (.tmp 14) rfl w.heap.size out rfl rfl 46 _ HRX.out HIO.out (by rw [HOS.out]; rfl) H1O.out ?_))
    refine bodyPost_ret (results_cell_row rfl _ _ w.heap.size 46 out (0, 0) _ rfl (setRow_heap _ _ _ _ _ _ HRX.out) Tryd.underlying46 rfl HIO.out) rfl ⟨rfl, below_setRow HBX.out (Nat.le_refl _) out⟩
  · have hd : decide ((n : Int) > 64) = false := by simp; omega
    have HK : Hid (keyOf k = k) := hid_of (by unfold keyOf; rw [if_neg (by rw [← HNN.out]; exact hlong)])
    have HBK : Hid (out = (splice (bs (List.replicate 64 0)) 0 (bs k)).toArray) := hid_of (by rw [HOUT.out, splice_block k (by rw [← HNN.out]; omega)]; unfold keyBlock; rw [HK.out])
    have HCELL : Hid (0 < n → ∃ ad, ao = some ad ∧ ∀ j u, (bs k)[j]? = some u → ((w.alloc (.cells zero64 46)).alloc (.cells zero64 46)).cell? (ad.add j) = some u) := hid_of (fun h0 => by
      obtain ⟨g, o, q1, q2, q3⟩ := HSRC.out h0
      refine ⟨_, q1, fun j u hu => ?_⟩
      rw [Addr.add_mid]
      have hb := HB1.out.trans (HBA.out.mono (Nat.le_succ _))
      exact (hb.cell (p := ⟨g, o + j, none⟩) q2).trans (q3 j u hu))
    go_wp2_with (first
      | (refine wpList_copy_splice rfl (.tmp 11) (.tmp 12) 22 22 rfl 5 Tryd.underlying22 Tryd.sizeU8 (some ⟨w.heap.size + 1, 0, none⟩) ao 64 64 n cap rfl rfl (w.heap.size + 1) 0 (bs (List.replicate 64 0)) 46 HQ.out (bs k) (by rw [bs_length, ← HNN.out]; exact (Nat.min_eq_left (by omega)).symm) (fun h0 => ⟨rfl, HCELL.out (by have := HNN.out; simp [bs] at h0; omega)⟩) (by have := HNN.out; simp [bs]; omega) (bs_one _) (w.heap.size + 1) (w.alloc (.cells zero64 46)) HBA.out (Nat.le_refl _) ?_; intro w5 hrow5 hb5; rw [← HBK.out] at hrow5; have HR5 := hid_of ((hb5.block _ (Nat.lt_succ_self _)).trans HR1.out); have HB5 := hid_of (HB1.out.trans (hb5.mono (Nat.le_succ _))); clear hb5)
      | (refine wpList_load_row rfl 46 (.tmp 3) rfl (w.heap.size + 1) rfl 46 out (0, 0) _ hrow5.out Tryd.underlying46 rfl HIO.out ?_)
      | (refine wpList_store_row rfl 46 (.tmp 2) (.tmp 14) rfl w.heap.size out rfl rfl 46 _ HR5.out HIO.out (by rw [HOS.out]; rfl) H1O.out ?_))
    refine bodyPost_ret (results_cell_row rfl _ _ w.heap.size 46 out (0, 0) _ rfl (setRow_heap _ _ _ _ _ _ HR5.out) Tryd.underlying46 rfl HIO.out) rfl ⟨rfl, below_setRow HB5.out (Nat.le_refl _) out⟩

set_option maxRecDepth 100000 in
theorem tag_any (v u : Value) (k m : List Int) (w : World) (hv : Lies w v k) (hu : Lies w u m) (hk : ∀ y ∈ k, 0 ≤ y ∧ y ≤ 255) (hm : ∀ y ∈ m, 0 ≤ y ∧ y ≤ 255) (hG : Glob w) (hn : k.length ≤ 80000000000) (hn2 : m.length ≤ 80000000000) :
    Calls Tryd.prog 12 #[v, u] w fun e w' => ∃ g cap, e = .returned (.slice (some ⟨g, 0, none⟩) 32 cap) ∧ w.heap.size ≤ g ∧ Lies w' (.slice (some ⟨g, 0, none⟩) 32 cap) (hmac k m) ∧ Below w.heap.size w w' := by
  obtain ⟨arr, harr⟩ : ∃ arr, arr = (bs (keyBlock k)).toArray := ⟨_, rfl⟩
  obtain ⟨ai, hai⟩ : ∃ ai, ai = (bs (xr 54 (keyBlock k))).toArray := ⟨_, rfl⟩
  obtain ⟨ao, hao⟩ : ∃ ao, ao = (bs (xr 92 (keyBlock k))).toArray := ⟨_, rfl⟩
  have HARR := hid_of harr
  have HAI := hid_of hai
  have HAO := hid_of hao
  have HSZ : Hid (arr.size = 64) := hid_of (by rw [harr]; simpa [bs] using keyBlock_length k)
  have HI : Hid ((Tryd.prog.info? 46).map (·.size) = some arr.size) := hid_of (by rw [HSZ.out]; exact Tryd.infoB)
  have H1 : Hid (arr.all (·.oneCell') = true) := hid_of (by rw [harr]; exact bs_oneCell _)
  have HV := hid_of hv
  have HU := hid_of hu
  have HK := hid_of hk
  have HM := hid_of hm
  have HG := hid_of hG
  have H2 : Hid (2 ≤ w.heap.size) := hid_of hG.two
  have HN := hid_of hn
  have HN2 := hid_of hn2
  have HKR := hid_of (keyBlock_rng k hk)
  have HKL := hid_of (keyBlock_length k)
  have HXI : Hid (∀ y ∈ xr 54 (keyBlock k), 0 ≤ y ∧ y ≤ 255) := hid_of (xr_rng 54 _ (by omega) (keyBlock_rng k hk))
  have HXO : Hid (∀ y ∈ xr 92 (keyBlock k), 0 ≤ y ∧ y ≤ 255) := hid_of (xr_rng 92 _ (by omega) (keyBlock_rng k hk))
  clear harr hai hao hv hu hk hm hG hn hn2
  have hmf : ∀ (fn : Fn) (first cap : Array Value) (w : World), (Instr.makeFunc fn first cap).run Tryd.prog w = .ok (.func fn first cap) w := fun _ _ _ _ => rfl
  have hz := (zero_of_info Tryd.zero64).1
  go_enter Tryd.func12, Tryd.ntmps12
  go_wp2_with (first
    | (go_at_call 25; refine (kblock_any v k w HV.out HK.out HG.out (by have := HN.out; omega)).mono ?_; rw [← HARR.out]; rintro e w1 ⟨rfl, hb1⟩; have HB1 := hid_of hb1; have HRW := hid_of (heap_alloc_new w1 (.cells arr 46)); have HB2 := hid_of (hb1.alloc hb1.size (.cells arr 46)); clear hb1)
    | (refine wpList_store_fresh rfl 46 (.tmp 5) (.tmp 9) rfl _ arr rfl rfl rfl _ HI.out (by rw [HSZ.out]; rfl) H1.out ?_)
    | (go_at_call 26; (first
      | ((with_reducible refine (ktag1_any w1.heap.size arr (keyBlock k) 54 (w1.alloc (.cells arr 46)) HRW.out HARR.out HKL.out HKR.out (by omega)).mono ?_); (rw [← HAI.out]; rintro e w3 ⟨rfl, hb3⟩; have HR3 := hid_of ((hb3.block _ (lt_of_block HRW.out)).trans HRW.out); have HB3 := hid_of (HB2.out.trans (hb3.mono HB2.out.size)); clear hb3))
      | ((with_reducible refine (ktag1_any w1.heap.size arr (keyBlock k) 92 w4 HR4.out HARR.out HKL.out HKR.out (by omega)).mono ?_); (rw [← HAO.out]; rintro e w5 ⟨rfl, hb5⟩; have HL5 := hid_of (HL4.out.later hb5 (Nat.le_refl _)); have HB5 := hid_of (HB4.out.trans (hb5.mono HB4.out.size)); clear hb5))))
    | (go_at_call 27; (first
      | ((with_reducible refine (kdigest_any ai (xr 54 (keyBlock k)) u m w3 HAI.out (by rw [xr_length]; exact HKL.out) HXI.out (HU.out.later HB3.out (Nat.le_refl _)) HM.out (HG.out.bel HB3.out H2.out) (by have := HN2.out; omega)).mono ?_); (rintro e w4 ⟨g4, cap4, rfl, hg4, hl4, hb4⟩; have HL4 := hid_of hl4; have HR4 := hid_of ((hb4.block _ (lt_of_block HR3.out)).trans HR3.out); have HB4 := hid_of (HB3.out.trans (hb4.mono HB3.out.size)); clear hl4 hb4 hg4))
      | ((with_reducible refine (kdigest_any ao (xr 92 (keyBlock k)) (.slice (some ⟨g4, 0, none⟩) 32 cap4) (digest (xr 54 (keyBlock k) ++ m)) w5 HAO.out (by rw [xr_length]; exact HKL.out) HXO.out HL5.out (digest_rng _) (HG.out.bel HB5.out H2.out) (by rw [digest_length]; omega)).mono ?_); (rintro e w6 ⟨g6, cap6, rfl, hg6, hl6, hb6⟩; have HL6 := hid_of hl6; have HB6 := hid_of (HB5.out.trans (hb6.mono HB5.out.size)); have HG6 := hid_of (Nat.le_trans HB5.out.size hg6); clear hl6 hb6 hg6)))))
  go_ret
  exact ⟨_, _, rfl, HG6.out, HL6.out, HB6.out⟩
end Go.Proofs.YtogfgcihhnblkaaDoor
