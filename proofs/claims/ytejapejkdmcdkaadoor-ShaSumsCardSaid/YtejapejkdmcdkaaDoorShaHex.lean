/- Hex, digit, Unhex. Bounds on the sizes. -/
import Derived.Test.YtejapejkdmcdkaaDoorShaDig
import Derived.Test.YtejapejkdmcdkaaDoorAppOwn
import Derived.OwnWalk
import Derived.WalkLawsBesides
namespace Go.Proofs.YtejapejkdmcdkaaDoor
open Go.RowKit

theorem Tryd.infoU8 : (Tryd.prog.info? 5).map (fun i => (i.zero, i.size, i.bytes)) = some (some (.int .u8 0), 1, 1) := by kernel_rfl
def strBytes (s : ByteArray) : List Int := s.data.toList.map fun b => (b.toNat : Int)
theorem strBytes_length (s : ByteArray) : (strBytes s).length = s.size := by simp [strBytes]
theorem strBytes_rng (s : ByteArray) : ∀ y ∈ strBytes s, 0 ≤ y ∧ y ≤ 255 := by
  intro y hy
  simp only [strBytes, List.mem_map] at hy
  obtain ⟨b, _, rfl⟩ := hy
  have := b.toNat_lt
  omega
theorem strBytes_at (s : ByteArray) (k : Nat) (h : k < s.size) : (strBytes s)[k]? = some ((s[k]).toNat : Int) := by
  have h2 : k < s.data.toList.length := by simpa using h
  simp only [strBytes, List.getElem?_map, List.getElem?_eq_getElem h2]
  rfl
theorem strOfNums_bytes (m : List Int) (h : ∀ y ∈ m, 0 ≤ y ∧ y ≤ 255) : strBytes (strOfNums m) = m := by
  unfold strBytes
  rw [strOfNums_data, List.map_map]
  refine (List.map_congr_left fun y hy => ?_).trans (List.map_id m)
  have := h y hy
  simp
  omega

theorem own_shape {w : World} {base e size n : Nat} {v : Value} {xs : List Value} (h : w.ownsRow base e size v n xs) : ∃ ao cap, v = .slice ao n cap := by
  rcases h.2 with ⟨h1, h2⟩ | ⟨g, cap, cur, h1, _⟩
  · exact ⟨none, 0, by rw [h1, h2]⟩
  · exact ⟨_, cap, h1⟩
/-- A slice of the call's own that holds l; below B the world is as w0 was. -/
def OS (B : Nat) (w0 w : World) (v : Value) (l : List Int) : Prop := B ≤ w0.heap.size ∧ Below B w0 w ∧ w.ownsRow B 5 1 v l.length (bs l)
theorem OS.size {B : Nat} {w0 w : World} {v : Value} {l : List Int} (h : OS B w0 w v l) : B ≤ w.heap.size := Nat.le_trans h.1 h.2.1.size
theorem OS.own {B : Nat} {w0 w : World} {v : Value} {l : List Int} (h : OS B w0 w v l) : w.ownsRow B 5 1 v l.length (bs l) := h.2.2
theorem OS.bel {B : Nat} {w0 w : World} {v : Value} {l : List Int} (h : OS B w0 w v l) : Below B w0 w := h.2.1
theorem OS.alloc {B : Nat} {w0 w : World} {v : Value} {l : List Int} (h : OS B w0 w v l) (o : Obj) : OS B w0 (w.alloc o) v l := ⟨h.1, h.2.1.alloc h.size _, h.2.2.alloc o⟩
theorem OS.drew {B : Nat} {w0 w : World} {v : Value} {l : List Int} (h : OS B w0 w v l) : OS B w0 w.drew v l := ⟨h.1, h.2.1.drew, h.2.2.drew⟩
/-- Behind an append. -/
theorem OS.app {B n : Nat} {w0 w w' : World} {v v' : Value} {l m : List Int} (h : OS B w0 w v l) (hown : w'.ownsRow B 5 1 v' n (bs l ++ bs m)) (hn : n = l.length + m.length) (hg : w.grownBy w' v.ownBlock) : OS B w0 w' v' (l ++ m) := by
  subst hn
  refine ⟨h.1, h.2.1.grown hg h.size (fun k hk => (h.own.lt k hk).1), ?_⟩
  rw [bs_append, List.length_append]
  exact hown
theorem OS.src {B n cap : Nat} {w0 w : World} {ao : Option Addr} {l : List Int} (h : OS B w0 w (.slice ao n cap) l) : 0 < l.length → ∃ ad, ao = some ad ∧ ∀ j u, (bs l)[j]? = some u → w.cell? (ad.add j) = some u := by
  intro h0
  rcases h.own.2 with ⟨h1, h2⟩ | ⟨g, c, cur, h1, _, hg, _, _, _, ht⟩
  · omega
  · simp only [Value.slice.injEq] at h1
    refine ⟨_, h1.1, fun j u hu => World.news_of_block hg j u ?_⟩
    rw [← ht, List.getElem?_take] at hu
    split at hu
    · exact hu
    · cases hu
theorem os_made {w w1 : World} {n : Nat} {g : Nat} (hown : w1.ownsRow w.heap.size 5 1 (.slice (some ⟨g, 0, none⟩) 0 n) 0 []) (hgrow : w.grownBy w1 none) : OS w.heap.size w w1 (.slice (some ⟨g, 0, none⟩) 0 n) [] :=
  ⟨Nat.le_refl _, (Below.refl _ _).grown hgrow (Nat.le_refl _) (fun k h => by cases h), hown⟩

/-- A hexadecimal digit. -/
def dg (n : Int) : Int := if n < 10 then 48 + n else 87 + n
def hexL (l : List Int) : List Int := l.flatMap fun y => [dg (y / 16), dg (y % 16)]
theorem hexL_length (l : List Int) : (hexL l).length = 2 * l.length := by
  induction l with
  | nil => rfl
  | cons y r ih =>
    have e : hexL (y :: r) = [dg (y / 16), dg (y % 16)] ++ hexL r := by simp [hexL]
    rw [e, List.length_append, ih]; simp; omega
theorem hexL_snoc (l : List Int) (y : Int) : hexL (l ++ [y]) = hexL l ++ [dg (y / 16), dg (y % 16)] := by simp [hexL]
theorem digits_at (n : Nat) (h : n < 16) (w : World) : (Instr.index 9 (.string ⟨#[48, 49, 50, 51, 52, 53, 54, 55, 56, 57, 97, 98, 99, 100, 101, 102]⟩) (.int .u8 (n : Int))).run Tryd.prog w = .ok (.int .u8 (dg n)) w :=
  match n, h with
  | 0, _ => by kernel_rfl
  | 1, _ => by kernel_rfl
  | 2, _ => by kernel_rfl
  | 3, _ => by kernel_rfl
  | 4, _ => by kernel_rfl
  | 5, _ => by kernel_rfl
  | 6, _ => by kernel_rfl
  | 7, _ => by kernel_rfl
  | 8, _ => by kernel_rfl
  | 9, _ => by kernel_rfl
  | 10, _ => by kernel_rfl
  | 11, _ => by kernel_rfl
  | 12, _ => by kernel_rfl
  | 13, _ => by kernel_rfl
  | 14, _ => by kernel_rfl
  | 15, _ => by kernel_rfl
  | k + 16, hk => absurd hk (by omega)

theorem and15 (y : Int) (y0 : 0 ≤ y) (y1 : y ≤ 255) : bits .and .u8 y 15 = y % 16 := by
  have h := u8_and y 15 y0 (by omega) (by omega) (by omega)
  rw [h, show (15 : Int).toNat = 15 from rfl, nat_mask4]
  omega
theorem dig_hi (y : Int) (y0 : 0 ≤ y) (y1 : y ≤ 255) (w : World) : (Instr.index 9 (.string ⟨#[48, 49, 50, 51, 52, 53, 54, 55, 56, 57, 97, 98, 99, 100, 101, 102]⟩) (.int .u8 (y / 16))).run Tryd.prog w = .ok (.int .u8 (dg (y / 16))) w := by
  have h := digits_at (y.toNat / 16) (by omega) w
  rwa [show ((y.toNat / 16 : Nat) : Int) = y / 16 by omega] at h
theorem dig_lo (y : Int) (y0 : 0 ≤ y) (y1 : y ≤ 255) (w : World) : (Instr.index 9 (.string ⟨#[48, 49, 50, 51, 52, 53, 54, 55, 56, 57, 97, 98, 99, 100, 101, 102]⟩) (.int .u8 (y % 16))).run Tryd.prog w = .ok (.int .u8 (dg (y % 16))) w := by
  have h := digits_at (y.toNat % 16) (by omega) w
  rwa [show ((y.toNat % 16 : Nat) : Int) = y % 16 by omega] at h

set_option maxRecDepth 100000 in
set_option maxHeartbeats 1600000 in
theorem hex_any (s : ByteArray) (w : World) (hn : s.size ≤ 1000000000) :
    Calls Tryd.prog 19 #[.string s] w fun e w' => e = .returned (.string (strOfNums (hexL (strBytes s)))) ∧ Below w.heap.size w w' := by
  obtain ⟨i0, hi, hz0, hz1, hz2⟩ := info_parts Tryd.infoU8
  obtain ⟨n2, hn2⟩ : ∃ n2, n2 = 2 * s.size := ⟨_, rfl⟩
  have hm : 2 * (s.size : Int) = (n2 : Int) := by omega
  have hn3 : n2 ≤ 2000000000 := by omega
  clear hn2
  go_enter Tryd.func19, Tryd.ntmps19
  go_wp2_with (at_make; (refine wpList_make_own _ rfl _ _ 22 rfl w.heap.size 5 i0 (.int .u8 0) 1 Tryd.underlying22 hi hz0 hz1 _ _ _ n2 rfl rfl rfl (by rw [hz2]; omega) (by unfold maxLen; omega) (Nat.le_refl _) ?_); intro w1 hown1 hgrow1; have H1 := hid_of (os_made hown1 hgrow1); clear hown1 hgrow1)
  clear hm
  go_loopw [3, 11] (fun tv iv wr => ∃ (k n : Nat) (ao : Option Addr) (cap : Nat), k ≤ s.size ∧ iv = .int .i64 k ∧ tv = .slice ao n cap ∧ n ≤ 2 * k ∧ 2 * k ≤ n ∧ Hid (n = (hexL ((strBytes s).take k)).length) ∧ Hid (OS w.heap.size w wr (.slice ao n cap) (hexL ((strBytes s).take k)))) (fun _ iv _ => s.size - (intOf iv).toNat)
  case atStart => exact ⟨0, 0, _, _, by omega, rfl, rfl, by omega, by omega, hid_of rfl, H1⟩
  case round =>
    obtain ⟨k, n, ao, cap, hk, rfl, rfl, hnb, hnb2, hnl, hos⟩ := hrel
    by_cases hlt : k < s.size
    · obtain ⟨y, hy⟩ : ∃ y : Int, y = ((s[k]).toNat : Int) := ⟨_, rfl⟩
      have hy2 : 0 ≤ y ∧ y ≤ 255 := by rw [hy]; have := (s[k]).toNat_lt; omega
      obtain ⟨y0, y1⟩ := hy2
      have HY := hid_of hy
      have hys : ((s[k]).toNat : Int) = y := hy.symm
      clear hy
      have c1 : 0 ≤ y / 16 := by omega
      have c2 : y / 16 < 16 := by omega
      have c3 : 0 ≤ y % 16 := by omega
      have c4 : y % 16 < 16 := by omega
      have hd1 := dig_hi y y0 y1
      have hd2 := dig_lo y y0 y1
      have hb := and15 y y0 y1
      go_wp2
      have HOD : ∀ o : Obj, Hid (OS w.heap.size w (wr.alloc o).drew (.slice ao n cap) (hexL ((strBytes s).take k))) := fun o => hid_of (OS.drew (OS.alloc hos.out o))
      have HOWN : ∀ o : Obj, Hid ((wr.alloc o).drew.ownsRow w.heap.size 5 1 (.slice ao n cap) n (bs (hexL ((strBytes s).take k)))) := fun o => hid_of (by have h := (HOD o).out.own; rw [← hnl.out] at h; exact h)
      have HST : Hid ((strBytes s).take (k + 1) = (strBytes s).take k ++ [y]) := hid_of (by rw [List.take_add_one, strBytes_at s k hlt, HY.out]; rfl)
      have hrow : Hid (((wr.alloc (.cells #[.int .u8 (dg (y / 16)), .int .u8 (dg (y % 16))] 5)).drew).heap[wr.heap.size]? = some (.cells #[.int .u8 (dg (y / 16)), .int .u8 (dg (y % 16))] 5 (0, 0))) := hid_of (heap_alloc_new wr _)
      go_region_law
        ((refine step_append_src _ (by rfl) _ _ _ _ (by rfl) w.heap.size 5 i0 (.int .u8 0) 1 1 Tryd.underlying22 hi hz0 hz1 hz2 rfl (by omega) (.slice ao n cap) n (bs (hexL ((strBytes s).take k))) (by rfl) (HOWN _).out _ 2 (bs [dg (y / 16), dg (y % 16)]) (by rfl) (Src.ofSlice _ Tryd.underlying22 ⟨wr.heap.size, 0, none⟩ 2 2 (bs [dg (y / 16), dg (y % 16)]) rfl (World.news_of_block hrow.out) (bs_one _)) (by unfold maxLen; omega) (by omega) (OS.size (HOD _).out) ?_; intro v2 w2 hown2 hg2 _ _; have H2 := hid_of (OS.app (HOD _).out hown2 (by rw [hnl.out]; rfl) hg2); obtain ⟨ao2, cap2, rfl⟩ := own_shape hown2; clear hown2 hg2))
      all_goals
        go_wp2
        go_roundw
        case rel => exact ⟨k + 1, n + 2, ao2, cap2, by omega, by go_num, rfl, by omega, by omega, hid_of (by rw [HST.out, hexL_snoc, List.length_append, ← hnl.out]; rfl), hid_of (by rw [HST.out, hexL_snoc]; exact H2.out)⟩
        case measure => simp [intOf]; omega
    · obtain rfl : k = s.size := by omega
      have hfull : (strBytes s).take s.size = strBytes s := List.take_of_length_le (by rw [strBytes_length]; exact Nat.le_refl _)
      have HF := hid_of hfull
      have HOS : Hid (OS w.heap.size w wr (.slice ao n cap) (hexL (strBytes s))) := hid_of (by rw [← HF.out]; exact hos.out)
      have HNL : Hid ((hexL (strBytes s)).length = n) := hid_of (by rw [← HF.out]; exact hnl.out.symm)
      clear hfull hlt
      go_wp2_with (refine wpList_str _ rfl 22 9 (.tmp 28) rfl 5 Tryd.underlying22 Tryd.underlying5 Tryd.underlying9 ao (hexL (strBytes s)) n cap HNL.out rfl (OS.src HOS.out) ?_)
      go_ret
      exact ⟨rfl, HOS.out.bel⟩
end Go.Proofs.YtejapejkdmcdkaaDoor
