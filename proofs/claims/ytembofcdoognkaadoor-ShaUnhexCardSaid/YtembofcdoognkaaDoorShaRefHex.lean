/- The reference's digit, Hex and Unhex. Bounds on the sizes. -/
import Derived.Test.YtembofcdoognkaaDoorShaHexW
import Derived.Test.YtembofcdoognkaaDoorShaRow
namespace Go.Proofs.YtembofcdoognkaaDoor
open Go.RowKit

def dgr (c : Int) : Int := if isd c then dv c else -1
theorem dgr_low (c : Int) (h : 48 ≤ c) (h2 : c ≤ 57) : dgr c = c - 48 := by
  unfold dgr; rw [if_pos (isd_low c h h2).1, (isd_low c h h2).2]
theorem dgr_high (c : Int) (h : 97 ≤ c) (h2 : c ≤ 102) : dgr c = c - 97 + 10 := by
  unfold dgr; rw [if_pos (isd_high c h h2).1, (isd_high c h h2).2]
theorem dgr_none (c : Int) (h : ¬ ((48 ≤ c ∧ c ≤ 57) ∨ (97 ≤ c ∧ c ≤ 102))) : dgr c = -1 := by
  unfold dgr; rw [isd_none c h]; rfl
theorem dgr_yes (c : Int) (h : isd c = true) : 0 ≤ dgr c ∧ dgr c < 16 ∧ dg (dgr c) = c := by
  unfold dgr; rw [if_pos h]; exact dv_ok c h
theorem dgr_no (c : Int) (h : ¬ isd c = true) : dgr c = -1 := by unfold dgr; rw [if_neg h]
theorem dgr_rng (c : Int) : -1 ≤ dgr c ∧ dgr c < 16 := by
  by_cases h : isd c = true
  · have := dgr_yes c h; omega
  · have := dgr_no c h; omega

set_option maxRecDepth 100000 in
theorem rdigit_any (c : Int) (w : World) (h0 : 0 ≤ c) (h1 : c ≤ 255) :
    Calls Tryd.prog 29 #[.int .u8 c] w fun e w' => e = .returned (.int .i64 (dgr c)) ∧ w' = w := by
  obtain ⟨d, hd⟩ : ∃ d, d = dgr c := ⟨_, rfl⟩
  rw [← hd]
  have HD := hid_of hd
  clear hd
  go_enter Tryd.func29, Tryd.ntmps29
  go_wp2
  all_goals go_ret
  all_goals
    rw [HD.out]
    first
      | (rw [dgr_low c (by omega) (by omega)]; exact ⟨rfl, rfl⟩)
      | (rw [dgr_high c (by omega) (by omega)]; exact ⟨rfl, rfl⟩)
      | (rw [dgr_none c (by omega)]; exact ⟨rfl, rfl⟩)

/-- The result of Unhex is one and the same. -/
theorem unh_ex (s : ByteArray) : ∃ (S : ByteArray) (b : Bool), ∀ e : Ending,
    ((∃ l : List Int, (∀ y ∈ l, 0 ≤ y ∧ y ≤ 255) ∧ hexL l = strBytes s ∧ e = .returned (.tuple #[.string (strOfNums l), .bool true])) ∨
       ((∀ l : List Int, (∀ y ∈ l, 0 ≤ y ∧ y ≤ 255) → hexL l ≠ strBytes s) ∧ e = .returned (.tuple #[.string ⟨#[]⟩, .bool false]))) → e = .returned (.tuple #[.string S, .bool b]) := by
  by_cases h : ∃ l : List Int, (∀ y ∈ l, 0 ≤ y ∧ y ≤ 255) ∧ hexL l = strBytes s
  · obtain ⟨l, h1, h2⟩ := h
    refine ⟨strOfNums l, true, fun e he => ?_⟩
    rcases he with ⟨m, m1, m2, m3⟩ | ⟨hno, _⟩
    · have := hexL_inj m l m1 h1 (m2.trans h2.symm)
      rw [m3, this]
    · exact absurd h2 (hno l h1)
  · refine ⟨⟨#[]⟩, false, fun e he => ?_⟩
    rcases he with ⟨m, m1, m2, m3⟩ | ⟨_, he⟩
    · exact absurd ⟨m, m1, m2⟩ h
    · exact he

set_option maxRecDepth 100000 in
set_option maxHeartbeats 1600000 in
theorem rhex_any (s : ByteArray) (w : World) (hn : s.size ≤ 1000000000) :
    Calls Tryd.prog 22 #[.string s] w fun e w' => e = .returned (.string (strOfNums (hexL (strBytes s)))) ∧ Below w.heap.size w w' := by
  obtain ⟨i0, hi, hz0, hz1, hz2⟩ := info_parts Tryd.infoU8
  go_enter Tryd.func22, Tryd.ntmps22
  go_wp2
  go_loopw [4, 5] (fun tv iv wr => ∃ (k n : Nat) (ao : Option Addr) (cap : Nat), k ≤ s.size ∧ iv = .int .i64 k ∧ tv = .slice ao n cap ∧ n ≤ 2 * k ∧ 2 * k ≤ n ∧ Hid (n = (hexL ((strBytes s).take k)).length) ∧ Hid (OS w.heap.size w wr (.slice ao n cap) (hexL ((strBytes s).take k)))) (fun _ iv _ => s.size - (intOf iv).toNat)
  case atStart => exact ⟨0, 0, _, _, by omega, rfl, rfl, by omega, by omega, hid_of rfl, hid_of (os_nil w)⟩
  case round =>
    obtain ⟨k, n, ao, cap, hk, rfl, rfl, hnb, hnb2, hnl, hos⟩ := hrel
    by_cases hlt : k < s.size
    · obtain ⟨y, hy⟩ : ∃ y : Int, y = ((s[k]).toNat : Int) := ⟨_, rfl⟩
      have hy2 : 0 ≤ y ∧ y ≤ 255 := by rw [hy]; have := (s[k]).toNat_lt; omega
      obtain ⟨y0, y1⟩ := hy2
      have HY := hid_of hy
      have hys : ((s[k]).toNat : Int) = y := hy.symm
      clear hy
      have c1 : 0 ≤ y / 16 := by omega
      have c2 : y / 16 < 16 := by omega
      have c3 : 0 ≤ y % 16 := by omega
      have c4 : y % 16 < 16 := by omega
      have hd1 := dig_hi y y0 y1
      have hd2 := dig_lo y y0 y1
      have hb := and15 y y0 y1
      go_wp2
      have HOD : ∀ o : Obj, Hid (OS w.heap.size w (wr.alloc o).drew (.slice ao n cap) (hexL ((strBytes s).take k))) := fun o => hid_of (OS.drew (OS.alloc hos.out o))
      have HOWN : ∀ o : Obj, Hid ((wr.alloc o).drew.ownsRow w.heap.size 5 1 (.slice ao n cap) n (bs (hexL ((strBytes s).take k)))) := fun o => hid_of (by have h := (HOD o).out.own; rw [← hnl.out] at h; exact h)
      have HST : Hid ((strBytes s).take (k + 1) = (strBytes s).take k ++ [y]) := hid_of (by rw [List.take_add_one, strBytes_at s k hlt, HY.out]; rfl)
      have hrow : Hid (((wr.alloc (.cells #[.int .u8 (dg (y / 16)), .int .u8 (dg (y % 16))] 5)).drew).heap[wr.heap.size]? = some (.cells #[.int .u8 (dg (y / 16)), .int .u8 (dg (y % 16))] 5 (0, 0))) := hid_of (heap_alloc_new wr _)
      go_region_law
        ((refine step_append_src _ (by rfl) _ _ _ _ (by rfl) w.heap.size 5 i0 (.int .u8 0) 1 1 Tryd.underlying22 hi hz0 hz1 hz2 rfl (by omega) (.slice ao n cap) n (bs (hexL ((strBytes s).take k))) (by rfl) (HOWN _).out _ 2 (bs [dg (y / 16), dg (y % 16)]) (by rfl) (Src.ofSlice _ Tryd.underlying22 ⟨wr.heap.size, 0, none⟩ 2 2 (bs [dg (y / 16), dg (y % 16)]) rfl (World.news_of_block hrow.out) (bs_one _)) (by unfold maxLen; omega) (by omega) (OS.size (HOD _).out) ?_; intro v2 w2 hown2 hg2 _ _; have H2 := hid_of (OS.app (HOD _).out hown2 (by rw [hnl.out]; rfl) hg2); obtain ⟨ao2, cap2, rfl⟩ := own_shape hown2; clear hown2 hg2))
      all_goals
        go_wp2
        go_roundw
        case rel => exact ⟨k + 1, n + 2, ao2, cap2, by omega, by go_num, rfl, by omega, by omega, hid_of (by rw [HST.out, hexL_snoc, List.length_append, ← hnl.out]; rfl), hid_of (by rw [HST.out, hexL_snoc]; exact H2.out)⟩
        case measure => simp [intOf]; omega
    · obtain rfl : k = s.size := by omega
      have hfull : (strBytes s).take s.size = strBytes s := List.take_of_length_le (by rw [strBytes_length]; exact Nat.le_refl _)
      have HF := hid_of hfull
      have HOS : Hid (OS w.heap.size w wr (.slice ao n cap) (hexL (strBytes s))) := hid_of (by rw [← HF.out]; exact hos.out)
      have HNL : Hid ((hexL (strBytes s)).length = n) := hid_of (by rw [← HF.out]; exact hnl.out.symm)
      clear hfull hlt
      go_wp2_with (refine wpList_str _ rfl 22 9 (.tmp 27) rfl 5 Tryd.underlying22 Tryd.underlying5 Tryd.underlying9 ao (hexL (strBytes s)) n cap HNL.out rfl (OS.src HOS.out) ?_)
      go_ret
      exact ⟨rfl, HOS.out.bel⟩

end Go.Proofs.YtembofcdoognkaaDoor
