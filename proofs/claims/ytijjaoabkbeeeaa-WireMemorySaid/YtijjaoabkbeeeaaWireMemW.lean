/- The walk of WireMemory. No condition. -/
import Derived.Test.YtijjaoabkbeeeaaWireReadsW
namespace Go.Proofs.Ytijjaoabkbeeeaa
open Go.RowKit

/-- A row of bytes in block g, of which n came from a slice; nothing else has turned. -/
def Inc (w0 wr : World) (g n : Nat) : Prop :=
  Kept (fun k => k = g) w0 wr ∧ ∃ cs : Array Value, wr.heap[g]? = some (.cells cs 5 (0, 0)) ∧ ∀ j, j < n → ∃ y : Int, 0 ≤ y ∧ y ≤ 255 ∧ cs[j]? = some (.int .u8 y)
theorem Inc.start {w : World} {g n : Nat} {cs : Array Value} (h : w.heap[g]? = some (.cells cs 5 (0, 0))) (hc : ∀ j, j < n → ∃ y : Int, 0 ≤ y ∧ y ≤ 255 ∧ cs[j]? = some (.int .u8 y)) : Inc w w g n :=
  ⟨Kept.refl _ _, cs, h, hc⟩
theorem Inc.at {w0 wr : World} {g n j : Nat} (h : Inc w0 wr g n) (hj : j < n) : ∃ y : Int, 0 ≤ y ∧ y ≤ 255 ∧ wr.cell? ⟨g, j, none⟩ = some (.int .u8 y) ∧ wr.frozen? ⟨g, j, none⟩ = false := by
  obtain ⟨_, cs, h1, h2⟩ := h
  obtain ⟨y, y0, y1, hy⟩ := h2 j hj
  exact ⟨y, y0, y1, by rw [cell_of_row _ _ _ _ _ _ h1]; exact hy, frozen_of_row _ _ _ _ _ h1⟩
theorem Inc.set {w0 wr : World} {g n j : Nat} {z : Int} (h : Inc w0 wr g n) (z0 : 0 ≤ z) (z1 : z ≤ 255) : Inc w0 (wr.setCell ⟨g, j, none⟩ (.int .u8 z)) g n := by
  obtain ⟨hk, cs, h1, h2⟩ := h
  refine ⟨hk.setCell rfl _, cs.setIfInBounds j (.int .u8 z), heap_setCell_same _ _ _ _ _ _ h1, fun i hi => ?_⟩
  obtain ⟨y, y0, y1, hy⟩ := h2 i hi
  by_cases e : j = i
  · subst e
    have hl : j < cs.size := (Array.getElem?_eq_some_iff.1 hy).1
    exact ⟨z, z0, z1, by simp [hl]⟩
  · exact ⟨y, y0, y1, by rw [Array.getElem?_setIfInBounds_ne e]; exact hy⟩
theorem Inc.bel {w0 wr : World} {g n B : Nat} (h : Inc w0 wr g n) (hB : B ≤ w0.heap.size) (hg : B ≤ g) : Below B w0 wr := h.1.below hB (fun k hk => by omega)
theorem Inc.rst {w0 wr : World} {g n b q off last : Nat} {d : List Int} {err : Int} (h : Inc w0 wr g n) (hr : Rst w0 b q d off last err) (hb : b ≠ g) (hq : q ≠ g) : Rst wr b q d off last err :=
  hr.same (h.1.block b hr.blt hb) (h.1.block q hr.glt hq)
theorem row_bytes {l : List Int} (hr : ∀ y ∈ l, 0 ≤ y ∧ y ≤ 255) : ∀ j, j < l.length → ∃ y : Int, 0 ≤ y ∧ y ≤ 255 ∧ (bs l).toArray[j]? = some (.int .u8 y) := fun j hj =>
  ⟨l[j], (hr _ (List.getElem_mem hj)).1, (hr _ (List.getElem_mem hj)).2, by simp [bs, hj]⟩
theorem own_bytes {l : List Int} {cur : Array Value} (hr : ∀ y ∈ l, 0 ≤ y ∧ y ≤ 255) (h : cur.toList.take (l.length * 1) = bs l) : ∀ j, j < l.length → ∃ y : Int, 0 ≤ y ∧ y ≤ 255 ∧ cur[j]? = some (.int .u8 y) := fun j hj => by
  refine ⟨l[j], (hr _ (List.getElem_mem hj)).1, (hr _ (List.getElem_mem hj)).2, ?_⟩
  have h1 : (cur.toList.take (l.length * 1))[j]? = (bs l)[j]? := by rw [h]
  rw [List.getElem?_take, if_pos (by omega)] at h1
  simpa [bs, hj] using h1
theorem os_inc {B cap : Nat} {w0 w w' : World} {ao : Option Addr} {l : List Int} (h : OS B w0 w (.slice ao l.length cap) l) (hl : 0 < l.length) (hr : ∀ y ∈ l, 0 ≤ y ∧ y ≤ 255) (hb : Below w.heap.size w w') :
    ∃ g, ao = some ⟨g, 0, none⟩ ∧ B ≤ g ∧ g < w.heap.size ∧ Inc w' w' g l.length := by
  rcases h.own.2 with ⟨_, e⟩ | ⟨g, c, cur, e, hB, hg, _, _, _, ht⟩
  · omega
  · simp only [Value.slice.injEq] at e
    have hlt := lt_of_block hg
    exact ⟨g, e.1, hB, hlt, Inc.start ((hb.block g hlt).trans hg) (own_bytes hr ht)⟩

theorem WS.later {B b : Nat} {w0 w w' : World} {l : List Int} (h : WS B b w0 w l) (hb : Below w.heap.size w w') : WS B b w0 w' l := by
  obtain ⟨h1, h2, h3, v, hv⟩ := h
  exact ⟨h1, h2, h3.trans (hb.mono (Nat.le_trans h2 h3.size)), v, (hb.block b (lt_of_block hv.blk)).trans hv.blk, own_same hv.own fun k hk => hb.block k (hv.own.lt k hk).2⟩
theorem data_b (b B : Nat) (l : List Int) (w0 w : World) (h : WS B b w0 w l) (hl : l.length ≤ 140737488351232) :
    Calls Try.prog 27 #[.pointer (some ⟨b, 0, none⟩)] w fun e w' => e = .returned (.slice (some ⟨w.heap.size, 0, none⟩) l.length l.length) ∧
      w'.heap[w.heap.size]? = some (.cells (bs l).toArray 5 (0, 0)) ∧ Below w.heap.size w w' := by
  obtain ⟨h1, h2, h3, v, hv⟩ := h
  exact data_any b B v l w hv hl
theorem bytes_L (ao : Option Addr) (m : List Int) (cap : Nat) (b B : Nat) (l L : List Int) (w0 w : World) (hL : L = l ++ (enc m.length ++ m)) (h : WS B b w0 w l) (hs : m.length ≤ 70000000000000) (hl : l.length ≤ 70000000000000)
    (hnil : ao = none → cap = 0) (hsrc : 0 < m.length → ∃ ad, ao = some ad ∧ ad.block < B ∧ ∀ j u, (bs m)[j]? = some u → w0.cell? (ad.add j) = some u) :
    Calls Try.prog 26 #[.pointer (some ⟨b, 0, none⟩), .slice ao m.length cap] w fun e w' => e = .returned (.tuple #[]) ∧ WS B b w0 w' L := by
  subst hL
  rw [← List.append_assoc]
  exact bytes_ws ao m cap b B l w0 w h hs hl hnil hsrc
theorem src_in {w w1 : World} {ao : Option Addr} {m : List Int} (h : 0 < m.length → ∃ ad, ao = some ad ∧ ad.block < w.heap.size ∧ ∀ j u, (bs m)[j]? = some u → w.cell? (ad.add j) = some u) (hb : Below w.heap.size w w1) :
    0 < m.length → ∃ ad, ao = some ad ∧ ad.block < w1.heap.size ∧ ∀ j u, (bs m)[j]? = some u → w1.cell? (ad.add j) = some u := fun h0 => by
  obtain ⟨ad, h1, h2, h3⟩ := h h0
  refine ⟨ad, h1, Nat.lt_of_lt_of_le h2 hb.size, fun j u hu => ?_⟩
  rw [hb.cell (by rw [add_block]; exact h2)]
  exact h3 j u hu
theorem src_at {w w1 : World} {ao : Option Addr} {m : List Int} (h : 0 < m.length → ∃ ad, ao = some ad ∧ ad.block < w.heap.size ∧ ∀ j u, (bs m)[j]? = some u → w.cell? (ad.add j) = some u) (hb : Below w.heap.size w w1) :
    0 < m.length → ∃ ad, ao = some ad ∧ ∀ j u, (bs m)[j]? = some u → w1.cell? (ad.add j) = some u := fun h0 => by
  obtain ⟨ad, h1, _, h3⟩ := src_in h hb h0
  exact ⟨ad, h1, h3⟩
theorem rbytes_k (b g off last : Nat) (d m r : List Int) (w : World) (h : Rst w b g d off last 0) (hm : m.length < 18446744073709551616) (hd : d.drop off = enc m.length ++ (m ++ r)) :
    Calls Try.prog 23 #[.pointer (some ⟨b, 0, none⟩)] w fun e w' => e = .returned (.slice (some ⟨w.heap.size, 0, none⟩) m.length m.length) ∧
      Rst w' b g d (off + (enc m.length ++ m).length) off 0 ∧ w'.heap[w.heap.size]? = some (.cells (bs m).toArray 5 (0, 0)) ∧ Kept (fun k => k = b) w w' := by
  have e : (d.drop (off + (enc m.length).length)).take m.length = m := by rw [← List.drop_drop, hd, List.drop_left, List.take_left]
  refine (rbytes_ok b g off last (enc m.length).length m.length d w h (by rw [hd]; exact decRun_enc m r hm)).mono fun e' w' ⟨h1, h2, h3, h4⟩ => ⟨h1, ?_, ?_, h4⟩
  · rw [List.length_append, ← Nat.add_assoc]; exact h2
  · rw [e] at h3; exact h3

set_option maxRecDepth 100000 in
set_option maxHeartbeats 3200000 in
theorem mem_main (xo yo : Option Addr) (xs ys : List Int) (xc yc : Nat) (w : World) (hx : xs.length ≤ 2000) (hy : ys.length ≤ 2000) (hxn : xo = none → xc = 0) (hyn : yo = none → yc = 0) (hxr : ∀ y ∈ xs, 0 ≤ y ∧ y ≤ 255) (hyr : ∀ y ∈ ys, 0 ≤ y ∧ y ≤ 255)
    (hxs : 0 < xs.length → ∃ ad, xo = some ad ∧ ad.block < w.heap.size ∧ ∀ j u, (bs xs)[j]? = some u → w.cell? (ad.add j) = some u)
    (hys : 0 < ys.length → ∃ ad, yo = some ad ∧ ad.block < w.heap.size ∧ ∀ j u, (bs ys)[j]? = some u → w.cell? (ad.add j) = some u) :
    Calls Try.prog 9 #[.slice xo xs.length xc, .slice yo ys.length yc] w fun e w' => e = .returned (.bool true) ∧ Below w.heap.size w w' := by
  obtain ⟨i0, hi, hz0, hz1, hz2⟩ := info_parts Try.infoU8
  obtain ⟨L1, hL1⟩ : ∃ L1, L1 = [] ++ (enc xs.length ++ xs) := ⟨_, rfl⟩
  obtain ⟨L2, hL2⟩ : ∃ L2, L2 = L1 ++ (enc ys.length ++ ys) := ⟨_, rfl⟩
  have q1 := enc_length_10 xs.length (by omega)
  have q2 := enc_length_10 ys.length (by omega)
  have q3 := enc_length_pos xs.length
  have hl1 : L1.length ≤ 2010 := by rw [hL1]; simp; omega
  have hl1p : 0 < L1.length := by rw [hL1]; simp; omega
  have hl2 : L2.length ≤ 4020 := by rw [hL2]; simp; omega
  have hl2p : 0 < L2.length := by rw [hL2]; simp; omega
  have HR1 : Hid (∀ y ∈ L1, 0 ≤ y ∧ y ≤ 255) := hid_of (by rw [hL1]; intro y hy; simp at hy; exact hy.elim (enc_byte _ y) (hxr y))
  have HR2 : Hid (∀ y ∈ L2, 0 ≤ y ∧ y ≤ 255) := hid_of (by rw [hL2]; intro y hy; simp at hy; exact hy.elim (HR1.out y) (fun h => h.elim (enc_byte _ y) (hyr y)))
  have HD1 : Hid (L2.drop 0 = enc xs.length ++ (xs ++ (enc ys.length ++ ys))) := hid_of (by rw [hL2, hL1]; simp)
  have HD2 : Hid (L2.drop (0 + (enc xs.length ++ xs).length) = enc ys.length ++ (ys ++ [])) := hid_of (by rw [hL2, hL1]; simp)
  have HDL : Hid (L2.length ≤ 140737488351232) := hid_of (by omega)
  have HEND : Hid (0 + (enc xs.length ++ xs).length + (enc ys.length ++ ys).length = L2.length) := hid_of (by rw [hL2, hL1]; simp; omega)
  have HL1 := hid_of hL1
  have HL2 := hid_of hL2
  have HXN := hid_of hxn
  have HYN := hid_of hyn
  have HXR := hid_of hxr
  have HXS := hid_of hxs
  have HYS := hid_of hys
  clear hL1 hL2 q1 q2 q3 hxn hyn hxr hyr hxs hys
  go_enter Try.func9, Try.ntmps9
  go_wp2_with (first
    | (go_at_call 10; refine (awake_any w).mono ?_; rintro e w1 ⟨rfl, h1⟩; have H1 := hid_of h1; clear h1)
    | (go_at_call 26; refine (bytes_L xo xs xc w1.heap.size w1.heap.size [] L1 w1 _ HL1.out (ws_new w1) (by omega) (by simp) HXN.out (src_in HXS.out H1.out)).mono ?_; rintro e w2 ⟨rfl, h2⟩; have H2 := hid_of h2; clear h2)
    | (go_at_call 27; refine (data_b w1.heap.size w1.heap.size L1 w1 w2 H2.out (by omega)).mono ?_; rintro e w3 ⟨rfl, hr3, hb3⟩; have HI3 := hid_of (Inc.start hr3 (row_bytes HR1.out)); have HB3 := hid_of hb3; clear hr3 hb3))
  go_loopw [7] (fun iv wr => ∃ k : Nat, k ≤ L1.length ∧ iv = .int .i64 k ∧ Hid (Inc w3 wr w2.heap.size L1.length)) (fun i _ => L1.length - (intOf i).toNat)
  case atStart => exact ⟨0, Nat.zero_le _, rfl, HI3⟩
  case round =>
    obtain ⟨k, hk, rfl, hinc⟩ := hrel
    by_cases hlt : k < L1.length
    · obtain ⟨y, y0, y1, hcell, hfree⟩ := hinc.out.at hlt
      go_wp2
      go_roundw
      case rel => exact ⟨k + 1, by omega, by go_num, hid_of (hinc.out.set (by omega) (by omega))⟩
      case measure => simp [intOf]; omega
    · obtain rfl : k = L1.length := by omega
      obtain ⟨w4, rfl⟩ : ∃ w4 : World, w4 = wr := ⟨_, rfl⟩
      have HB24 := hid_of (HB3.out.trans (hinc.out.bel HB3.out.size (Nat.le_refl _)))
      have H4 := hid_of (WS.later H2.out HB24.out)
      clear hinc
      go_wp2_with (first
        | (go_at_call 26; refine (bytes_L yo ys yc w1.heap.size w1.heap.size L1 L2 w1 _ HL2.out H4.out (by omega) (by omega) HYN.out (src_in HYS.out H1.out)).mono ?_; rintro e w5 ⟨rfl, h5⟩; have H5 := hid_of h5; clear h5)
        | (go_at_call 27; refine (data_b w1.heap.size w1.heap.size L2 w1 w5 H5.out (by omega)).mono ?_; rintro e w6 ⟨rfl, hr6, hb6⟩; have HR6 := hid_of hr6; have HB6 := hid_of hb6; have HO := hid_of (OS.empty w6); have HSE := hid_of (src_row (keep_row (o := .cells #[] 5) hr6)); clear hr6 hb6)
        | ((with_reducible refine wpList_append_src _ rfl (.tmp 48) (.tmp 49) 25 25 rfl w6.heap.size 5 i0 (.int .u8 0) 1 1 Try.underlying25 hi hz0 hz1 hz2 rfl (by decide) (.slice (some ⟨w6.heap.size, 0, none⟩) 0 0) 0 (bs []) rfl (OS.own0 HO.out) (.slice (some ⟨w5.heap.size, 0, none⟩) L2.length L2.length) L2.length (bs L2) rfl HSE.out (by unfold maxLen; omega) (by omega) (OS.size HO.out) ?_); intro v7 w7 hown7 hg7 _ _; have H7 := hid_of (os_first HO.out hown7 hg7); obtain ⟨ao7, cap7, rfl⟩ := own_shape (OS.own H7.out); clear hown7 hg7)
        | (go_at_call 14; refine (newReader_n ao7 L2 L2.length cap7 w7 rfl HR2.out HDL.out (os_reader H7.out rfl)).mono ?_; rintro e w8 ⟨b8, g8, rfl, h8, hb8, hbb8, hgg8⟩; have H8 := hid_of h8; have HB8 := hid_of hb8; have HBB8 := hid_of hbb8; have HGG8 := hid_of hgg8; clear h8 hb8 hbb8 hgg8))
      obtain ⟨gc, rfl, hgc, hgc7, hic⟩ := os_inc H7.out hl2p HR2.out HB8.out
      have HIC := hid_of hic
      have HGC := hid_of hgc
      have HGC7 := hid_of hgc7
      clear hic hgc hgc7
      go_loopw [11] (fun iv wr => ∃ k : Nat, k ≤ L2.length ∧ iv = .int .i64 k ∧ Hid (Inc w8 wr gc L2.length)) (fun i _ => L2.length - (intOf i).toNat)
      case atStart => exact ⟨0, Nat.zero_le _, rfl, HIC⟩
      case round =>
        obtain ⟨k, hk, rfl, hinc⟩ := hrel
        by_cases hlt : k < L2.length
        · obtain ⟨y, y0, y1, hcell, hfree⟩ := hinc.out.at hlt
          go_wp2
          go_roundw
          case rel => exact ⟨k + 1, by omega, by go_num, hid_of (hinc.out.set (by omega) (by omega))⟩
          case measure => simp [intOf]; omega
        · obtain rfl : k = L2.length := by omega
          obtain ⟨w9, rfl⟩ : ∃ w9 : World, w9 = wr := ⟨_, rfl⟩
          have HR9 := hid_of (hinc.out.rst H8.out (by have := HBB8.out; have := HGC7.out; omega) (by have := HGG8.out; have := HGC7.out; omega))
          have hB67 := (OS.bel H7.out)
          have hB68 := hB67.trans (HB8.out.mono hB67.size)
          have HB69 := hid_of (hB68.trans (hinc.out.bel hB68.size HGC.out))
          have HB06 := hid_of ((H1.out.trans (H5.out.bel.mono H1.out.size)).trans (HB6.out.mono (Nat.le_trans H1.out.size H5.out.bel.size)))
          clear hinc hB67 hB68
          go_wp2_with (first
            | (go_at_call 23; refine (rbytes_k b8 g8 0 0 L2 xs _ w9 HR9.out (by omega) HD1.out).mono ?_; rintro e w10 ⟨rfl, hR10, hrow10, hK10⟩; have HR10 := hid_of hR10; have HROW10 := hid_of hrow10; have HK10 := hid_of hK10; have HB610 := hid_of (HB69.out.trans (hK10.below HB69.out.size (fun k hk => by have := HBB8.out; have := (OS.bel H7.out).size; omega))); have HB010 := hid_of (HB06.out.trans (HB610.out.mono HB06.out.size)); clear hR10 hrow10 hK10)
            | (with_reducible refine wpList_str _ rfl 25 9 _ rfl 5 Try.underlying25 Try.underlying5 Try.underlying9 (some ⟨w9.heap.size, 0, none⟩) xs xs.length rfl (_root_.Go.Proofs.Ytijjaoabkbeeeaa.row_src HROW10.out) ?_)
            | (with_reducible refine wpList_str _ rfl 25 9 _ rfl 5 Try.underlying25 Try.underlying5 Try.underlying9 xo xs xc rfl (src_at HXS.out HB010.out) ?_))
          go_loopw [13] (fun iv wr => ∃ k : Nat, k ≤ xs.length ∧ iv = .int .i64 k ∧ Hid (Inc w10 wr w9.heap.size xs.length)) (fun i _ => xs.length - (intOf i).toNat)
          case atStart => exact ⟨0, Nat.zero_le _, rfl, hid_of (Inc.start HROW10.out (row_bytes HXR.out))⟩
          case round =>
            obtain ⟨k, hk, rfl, hinc⟩ := hrel
            by_cases hlt : k < xs.length
            · obtain ⟨y, y0, y1, hcell, hfree⟩ := hinc.out.at hlt
              go_wp2
              go_roundw
              case rel => exact ⟨k + 1, by omega, by go_num, hid_of (hinc.out.set (by omega) (by omega))⟩
              case measure => simp [intOf]; omega
            · obtain rfl : k = xs.length := by omega
              obtain ⟨w11, rfl⟩ : ∃ w11 : World, w11 = wr := ⟨_, rfl⟩
              have HR11 := hid_of (hinc.out.rst HR10.out (by have := HR9.out.blt; omega) (by have := HR9.out.glt; omega))
              have HB611 := hid_of (HB610.out.trans (hinc.out.bel HB610.out.size HB69.out.size))
              have HB011 := hid_of (HB06.out.trans (HB611.out.mono HB06.out.size))
              have HS11 := hid_of (WS.later H5.out (HB6.out.trans (HB611.out.mono HB6.out.size)))
              have HROWB := hid_of ((HB611.out.block w5.heap.size (lt_of_block HR6.out)).trans HR6.out)
              clear hinc
              have cvy0 : (convert 25 9 (.slice yo ys.length yc)).run Try.prog w11.drew = .ok (.string (strOfNums ys)) w11.drew := conv_src (src_at HYS.out HB011.out.drew)
              have HR11D : Hid (Rst w11.drew b8 g8 L2 (0 + (enc xs.length ++ xs).length) 0 0) := hid_of ⟨HR11.out.blk, HR11.out.row, HR11.out.rng, HR11.out.le, HR11.out.small⟩
              go_wp2_with fail
              go_region_with (first
                | (go_at_call 23; refine (rbytes_k b8 g8 _ 0 L2 ys [] w11.drew HR11D.out (by omega) HD2.out).mono ?_; rintro e w12 ⟨rfl, hR12, hrow12, hK12⟩; have HR12 := hid_of hR12; have HB12 := hid_of (HB611.out.drew.trans (hK12.below HB611.out.drew.size (fun k hk => by have := HBB8.out; have := (OS.bel H7.out).size; omega))); have cv12 : (convert 25 9 (.slice (some ⟨w11.heap.size, 0, none⟩) ys.length ys.length)).run Try.prog w12 = .ok (.string (strOfNums ys)) w12 := conv_row hrow12; have cvy12 := conv_src (cap := yc) (src_at HYS.out (HB06.out.trans (HB12.out.mono HB06.out.size))); have cvb12 : ∀ k, (convert 25 9 (.slice (some ⟨w5.heap.size, 0, none⟩) L2.length L2.length)).run Try.prog (w12.drewN k) = .ok (.string (strOfNums L2)) (w12.drewN k) := fun k => conv_row ((HB12.out.block w5.heap.size (lt_of_block HR6.out)).trans HR6.out); clear hR12 hrow12 hK12)
                | (go_at_call 19; refine (end_ok b8 g8 _ _ L2 w12 HR12.out HEND.out).mono ?_; rintro e w' ⟨rfl, m13, rfl⟩)
                | (go_at_call 27; refine (data_b w1.heap.size w1.heap.size L2 w1 (w12.drewN m13) (WS.later H5.out (below_drewN (HB6.out.trans (HB12.out.mono HB6.out.size)) m13)) (by omega)).mono ?_; rintro e w14 ⟨rfl, hr14, hb14⟩; have HB14 := hid_of ((below_drewN HB12.out m13).trans (hb14.mono (below_drewN HB12.out m13).size)); have cv14 : (convert 25 9 (.slice (some ⟨w12.heap.size, 0, none⟩) L2.length L2.length)).run Try.prog w14 = .ok (.string (strOfNums L2)) w14 := conv_row hr14; have cvb14 : (convert 25 9 (.slice (some ⟨w5.heap.size, 0, none⟩) L2.length L2.length)).run Try.prog w14 = .ok (.string (strOfNums L2)) w14 := conv_row ((HB14.out.block w5.heap.size (lt_of_block HR6.out)).trans HR6.out); clear hr14 hb14))
              all_goals go_wp2
              all_goals go_ret
              all_goals exact ⟨rfl, HB06.out.trans (HB14.out.mono HB06.out.size)⟩

theorem mem_long (xo yo : Option Addr) (xl yl xc yc : Nat) (w : World) (h : 2000 < xl ∨ 2000 < yl) :
    Calls Try.prog 9 #[.slice xo xl xc, .slice yo yl yc] w fun e w' => e = .returned (.bool true) ∧ Below w.heap.size w w' := by
  by_cases h1 : 2000 < xl
  · go_enter Try.func9, Try.ntmps9
    go_wp2_with (go_at_call 10; refine (awake_any w).mono ?_; rintro e w1 ⟨rfl, h1⟩; have H1 := hid_of h1; clear h1)
    go_ret
    exact ⟨rfl, H1.out⟩
  · have h2 : 2000 < yl := by omega
    clear h
    go_enter Try.func9, Try.ntmps9
    go_wp2_with (go_at_call 10; refine (awake_any w).mono ?_; rintro e w1 ⟨rfl, h1⟩; have H1 := hid_of h1; clear h1)
    go_ret
    exact ⟨rfl, H1.out⟩

theorem mem_law (a0 : Option Addr) (len0 cap0 : Nat) (a1 : Option Addr) (len1 cap1 : Nat) (z0 z1 : List Int) (w : World) (w0 : IsRow .u8 w a0 len0 cap0 z0) (w1 : IsRow .u8 w a1 len1 cap1 z1) :
    Calls Try.prog 9 #[.slice a0 len0 cap0, .slice a1 len1 cap1] w fun e w' => e = .returned (.bool true) ∧ Below w.heap.size w w' := by
  obtain ⟨xs, rfl, _, hxn, hxr, hxs⟩ := w0.bytes
  obtain ⟨ys, rfl, _, hyn, hyr, hys⟩ := w1.bytes
  by_cases h : 2000 < xs.length ∨ 2000 < ys.length
  · exact mem_long a0 a1 xs.length ys.length cap0 cap1 w h
  · exact mem_main a0 a1 xs ys cap0 cap1 w (by omega) (by omega) hxn hyn hxr hyr hxs hys

end Go.Proofs.Ytijjaoabkbeeeaa
