/- ShaHex: the walk. -/
import Derived.Test.YtembofcdoognkaaDoorShaLaw
namespace Go.Proofs.YtembofcdoognkaaDoor
open Go.RowKit

theorem hexL_strOf (m : List Int) : (strOfNums m).size = m.length := by
  have : (strOfNums m).data.size = m.length := by rw [← Array.length_toList, strOfNums_data, List.length_map]
  exact this
theorem hexL_rng (l : List Int) (hl : ∀ y ∈ l, 0 ≤ y ∧ y ≤ 255) : ∀ y ∈ hexL l, 0 ≤ y ∧ y ≤ 255 := by
  intro y hy
  have h := hexL_isd l hl y hy
  simp [isd] at h
  omega
theorem strOf_strBytes (s : ByteArray) : strOfNums (strBytes s) = s := by
  apply ByteArray.ext
  apply Array.toList_inj.mp
  rw [strOfNums_data]
  unfold strBytes
  rw [List.map_map]
  refine (List.map_congr_left fun y _ => ?_).trans (List.map_id _)
  simp
theorem unhex_hex (s : ByteArray) (w : World) (hn : s.size ≤ 1000000000) :
    Calls Tryd.prog 20 #[.string (strOfNums (hexL (strBytes s)))] w fun e w' => e = .returned (.tuple #[.string s, .bool true]) ∧ Below w.heap.size w w' := by
  have hb : strBytes (strOfNums (hexL (strBytes s))) = hexL (strBytes s) := strOfNums_bytes _ (hexL_rng _ (strBytes_rng s))
  refine (unhex_any _ w (by rw [hexL_strOf, hexL_length, strBytes_length]; omega)).mono fun e w' ⟨hbel, h⟩ => ⟨?_, hbel⟩
  rcases h with ⟨l, hl, he, hr⟩ | ⟨h, _⟩
  · have := hexL_inj l (strBytes s) hl (strBytes_rng s) (he.trans hb)
    subst this
    rw [hr, strOf_strBytes]
  · exact absurd hb.symm (h _ (strBytes_rng s))

set_option maxRecDepth 100000 in
set_option maxHeartbeats 1600000 in
theorem shaHex_law (s : ByteArray) (w : World) (hG : Glob w) : Calls Tryd.prog 8 #[.string s] w fun e w' => e = .returned (.bool true) ∧ Below w.heap.size w w' := by
  have HG := hid_of hG
  clear hG
  by_cases hn : s.size ≤ 1000
  case neg =>
    go_enter Tryd.func8, Tryd.ntmps8
    go_wp2_with (first
      | (go_at_call 10; refine (awake_any w HG.out).mono ?_; rintro e w1 ⟨rfl, hb1⟩; have HB1 := hid_of hb1; clear hb1))
    go_ret
    exact ⟨rfl, HB1.out⟩
  obtain ⟨h, hh⟩ : ∃ h, h = strOfNums (hexL (strBytes s)) := ⟨_, rfl⟩
  have hsz : h.size = 2 * s.size := by rw [hh, hexL_strOf, hexL_length, strBytes_length]
  have HEX := hid_of (fun w => hex_any s w (by omega))
  have UNH := hid_of (fun w => unhex_hex s w (by omega))
  rw [← hh] at HEX UNH
  clear hh
  go_enter Tryd.func8, Tryd.ntmps8
  go_wp2_with (first
    | (go_at_call 10; refine (awake_any w HG.out).mono ?_; rintro e w1 ⟨rfl, hb1⟩; have HB1 := hid_of hb1; clear hb1)
    | (go_at_call 19; refine (HEX.out w1).mono ?_; rintro e w2 ⟨rfl, hb2⟩; have HB2 := hid_of (HB1.out.trans (hb2.mono HB1.out.size)); clear hb2)
    | (go_at_call 20; refine (UNH.out w2).mono ?_; rintro e w3 ⟨rfl, hb3⟩; have HB3 := hid_of (HB2.out.trans (hb3.mono HB2.out.size)); clear hb3))
  go_ret
  exact ⟨rfl, HB3.out⟩
end Go.Proofs.YtembofcdoognkaaDoor
