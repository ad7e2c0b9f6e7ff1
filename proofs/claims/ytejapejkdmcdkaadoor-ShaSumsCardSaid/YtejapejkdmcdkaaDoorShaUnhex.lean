/- digit, Unhex. -/
import Derived.Test.YtejapejkdmcdkaaDoorShaHex
namespace Go.Proofs.YtejapejkdmcdkaaDoor
open Go.RowKit

def isd (c : Int) : Bool := (decide (48 ≤ c) && decide (c ≤ 57)) || (decide (97 ≤ c) && decide (c ≤ 102))
def dv (c : Int) : Int := if c ≤ 57 then c - 48 else c - 87
def dgv (c : Int) : Int := if isd c then dv c else 0
theorem dv_ok (c : Int) (h : isd c = true) : 0 ≤ dv c ∧ dv c < 16 ∧ dg (dv c) = c := by
  simp [isd] at h
  unfold dv dg
  refine ⟨?_, ?_, ?_⟩ <;> split <;> (try split) <;> omega
theorem isd_dg (n : Int) (h0 : 0 ≤ n) (h1 : n < 16) : isd (dg n) = true := by
  simp [isd]; unfold dg; split <;> omega

theorem isd_low (c : Int) (h : 48 ≤ c) (h2 : c ≤ 57) : isd c = true ∧ dv c = c - 48 := by
  refine ⟨by simp [isd]; omega, ?_⟩
  unfold dv; rw [if_pos h2]
theorem isd_high (c : Int) (h : 97 ≤ c) (h2 : c ≤ 102) : isd c = true ∧ dv c = c - 97 + 10 := by
  refine ⟨by simp [isd]; omega, ?_⟩
  unfold dv; rw [if_neg (by omega)]; omega
theorem isd_none (c : Int) (h : ¬ ((48 ≤ c ∧ c ≤ 57) ∨ (97 ≤ c ∧ c ≤ 102))) : isd c = false := by
  simp [isd]; omega

theorem dgv_low (c : Int) (h : 48 ≤ c) (h2 : c ≤ 57) : dgv c = c - 48 := by
  unfold dgv; rw [if_pos (isd_low c h h2).1, (isd_low c h h2).2]
theorem dgv_high (c : Int) (h : 97 ≤ c) (h2 : c ≤ 102) : dgv c = c - 97 + 10 := by
  unfold dgv; rw [if_pos (isd_high c h h2).1, (isd_high c h h2).2]
theorem dgv_none (c : Int) (h : ¬ ((48 ≤ c ∧ c ≤ 57) ∨ (97 ≤ c ∧ c ≤ 102))) : dgv c = 0 := by
  unfold dgv; rw [isd_none c h]; rfl

theorem or_nib : ∀ p q : Fin 16, bits .or .u8 ((p.val : Int) * 16 % 256) (q.val : Int) = p.val * 16 + q.val := by decide
theorem dgv_eq (c : Int) (h : isd c = true) : dgv c = dv c := by unfold dgv; rw [if_pos h]
theorem dgv_or (y x : Int) (hy : isd y = true) (hx : isd x = true) :
    dg (bits .or .u8 (dgv y * 16 % 256) (dgv x) / 16) = y ∧ dg (bits .or .u8 (dgv y * 16 % 256) (dgv x) % 16) = x ∧ 0 ≤ bits .or .u8 (dgv y * 16 % 256) (dgv x) ∧ bits .or .u8 (dgv y * 16 % 256) (dgv x) ≤ 255 := by
  obtain ⟨y0, y1, y2⟩ := dv_ok y hy
  obtain ⟨x0, x1, x2⟩ := dv_ok x hx
  rw [dgv_eq y hy, dgv_eq x hx]
  have h := or_nib ⟨(dv y).toNat, by omega⟩ ⟨(dv x).toNat, by omega⟩
  simp only [Int.toNat_of_nonneg y0, Int.toNat_of_nonneg x0] at h
  rw [h, show (dv y * 16 + dv x) / 16 = dv y by omega, show (dv y * 16 + dv x) % 16 = dv x by omega]
  exact ⟨y2, x2, by omega, by omega⟩

set_option maxRecDepth 100000 in
theorem digit_any (c : Int) (w : World) (h0 : 0 ≤ c) (h1 : c ≤ 255) :
    Calls Tryd.prog 28 #[.int .u8 c] w fun e w' => e = .returned (.tuple #[.int .u8 (dgv c), .bool (isd c)]) ∧ w' = w := by
  obtain ⟨d, hd⟩ : ∃ d, d = dgv c := ⟨_, rfl⟩
  obtain ⟨r, hr⟩ : ∃ r, r = isd c := ⟨_, rfl⟩
  rw [← hd, ← hr]
  have HD := hid_of hd
  have HR := hid_of hr
  clear hd hr
  go_enter Tryd.func28, Tryd.ntmps28
  go_wp2
  all_goals go_ret2
  all_goals
    rw [HD.out, HR.out]
    first
      | (rw [dgv_low c (by omega) (by omega), (isd_low c (by omega) (by omega)).1]; exact ⟨rfl, rfl⟩)
      | (rw [dgv_high c (by omega) (by omega), (isd_high c (by omega) (by omega)).1]; exact ⟨rfl, rfl⟩)
      | (rw [dgv_none c (by omega), isd_none c (by omega)]; exact ⟨rfl, rfl⟩)
/-- Only one list is behind digits. -/
theorem dg_inj (a b : Int) (a0 : 0 ≤ a) (a1 : a < 16) (b0 : 0 ≤ b) (b1 : b < 16) (h : dg a = dg b) : a = b := by
  unfold dg at h; split at h <;> split at h <;> omega
theorem hexL_inj : ∀ (l m : List Int), (∀ y ∈ l, 0 ≤ y ∧ y ≤ 255) → (∀ y ∈ m, 0 ≤ y ∧ y ≤ 255) → hexL l = hexL m → l = m := by
  intro l
  induction l with
  | nil => intro m _ _ h; have := congrArg List.length h; rw [hexL_length, hexL_length] at this; exact (List.eq_nil_of_length_eq_zero (by simp at this; omega)).symm
  | cons x l ih =>
    intro m hl hm h
    cases m with
    | nil => have := congrArg List.length h; rw [hexL_length, hexL_length] at this; simp at this
    | cons y m =>
      have hx := hl x (by simp)
      have hy := hm y (by simp)
      have h' : dg (x / 16) :: dg (x % 16) :: hexL l = dg (y / 16) :: dg (y % 16) :: hexL m := h
      injection h' with e1 h'
      injection h' with e2 h'
      have f1 := dg_inj _ _ (by omega) (by omega) (by omega) (by omega) e1
      have f2 := dg_inj _ _ (by omega) (by omega) (by omega) (by omega) e2
      have : x = y := by omega
      subst this
      rw [ih m (fun y hy => hl y (by simp [hy])) (fun y hy => hm y (by simp [hy])) h']
theorem hexL_isd (l : List Int) (hl : ∀ y ∈ l, 0 ≤ y ∧ y ≤ 255) : ∀ y ∈ hexL l, isd y = true := by
  intro y hy
  simp only [hexL, List.mem_flatMap] at hy
  obtain ⟨x, hx, hy⟩ := hy
  have := hl x hx
  simp at hy
  rcases hy with rfl | rfl <;> exact isd_dg _ (by omega) (by omega)

set_option maxRecDepth 100000 in
set_option maxHeartbeats 1600000 in
theorem unhex_any (s : ByteArray) (w : World) (hn : s.size ≤ 2000000000) :
    Calls Tryd.prog 20 #[.string s] w fun e w' => Below w.heap.size w w' ∧
      ((∃ l : List Int, (∀ y ∈ l, 0 ≤ y ∧ y ≤ 255) ∧ hexL l = strBytes s ∧ e = .returned (.tuple #[.string (strOfNums l), .bool true])) ∨
       ((∀ l : List Int, (∀ y ∈ l, 0 ≤ y ∧ y ≤ 255) → hexL l ≠ strBytes s) ∧ e = .returned (.tuple #[.string ⟨#[]⟩, .bool false]))) := by
  obtain ⟨i0, hi, hz0, hz1, hz2⟩ := info_parts Tryd.infoU8
  obtain ⟨n2, hn2⟩ : ∃ n2, n2 = s.size / 2 := ⟨_, rfl⟩
  have hm : (s.size : Int) / 2 = (n2 : Int) := by omega
  have hn3 : n2 ≤ 1000000000 := by omega
  clear hn2
  go_enter Tryd.func20, Tryd.ntmps20
  by_cases hp : s.size % 2 = 0
  case neg =>
    go_wp2
    go_ret2
    refine ⟨Below.refl _ _, .inr ⟨fun l _ hl2 => ?_, rfl⟩⟩
    have := congrArg List.length hl2
    rw [hexL_length, strBytes_length] at this
    omega
  go_wp2_with (at_make; (refine wpList_make_own _ rfl _ _ 22 rfl w.heap.size 5 i0 (.int .u8 0) 1 Tryd.underlying22 hi hz0 hz1 _ _ _ n2 rfl rfl rfl (by rw [hz2]; omega) (by unfold maxLen; omega) (Nat.le_refl _) ?_); intro w1 hown1 hgrow1; have H1 := hid_of (os_made hown1 hgrow1); clear hown1 hgrow1)
  clear hm
  go_loopw [4, 5] (fun tv iv wr => ∃ (k m : Nat) (l : List Int) (ao : Option Addr) (cap : Nat), m ≤ s.size ∧ m = 2 * k ∧ iv = .int .i64 m ∧ tv = .slice ao k cap ∧ Hid (k = l.length) ∧ Hid (hexL l = (strBytes s).take m) ∧ Hid (∀ y ∈ l, 0 ≤ y ∧ y ≤ 255) ∧ Hid (OS w.heap.size w wr (.slice ao k cap) l)) (fun _ iv _ => s.size - (intOf iv).toNat)
  case atStart => exact ⟨0, 0, [], _, _, by omega, rfl, rfl, rfl, hid_of rfl, hid_of rfl, hid_of (by simp), H1⟩
  case round =>
    obtain ⟨k, m, l, ao, cap, hm, hmk, rfl, rfl, hkl, hhl, hlb, hos⟩ := hrel
    by_cases hlt : m < s.size
    · have hlt2 : m + 1 < s.size := by omega
      obtain ⟨y, hy⟩ : ∃ y : Int, y = ((s[m]).toNat : Int) := ⟨_, rfl⟩
      have hy2 : 0 ≤ y ∧ y ≤ 255 := by rw [hy]; have := (s[m]).toNat_lt; omega
      obtain ⟨y0, y1⟩ := hy2
      have HY := hid_of hy
      have hys : ((s[m]).toNat : Int) = y := hy.symm
      clear hy
      obtain ⟨x, hx⟩ : ∃ x : Int, x = ((s[m + 1]).toNat : Int) := ⟨_, rfl⟩
      have hx2 : 0 ≤ x ∧ x ≤ 255 := by rw [hx]; have := (s[m + 1]).toNat_lt; omega
      obtain ⟨x0, x1⟩ := hx2
      have HX := hid_of hx
      have hxs : ((s[m + 1]).toNat : Int) = x := hx.symm
      clear hx
      by_cases hyd : isd y = true
      case neg =>
        clear hmk
        have hyd2 : isd y = false := by simpa using hyd
        go_wp2_with (first
          | (go_at_call 28; refine (digit_any _ _ (by assumption) (by assumption)).mono ?_; rintro e w2 ⟨rfl, rfl⟩))
        all_goals
          go_ret2
          refine ⟨hos.out.bel, .inr ⟨fun l' hl' he => ?_, rfl⟩⟩
          have hmem : y ∈ hexL l' := by rw [he]; exact List.mem_of_getElem? ((strBytes_at s m hlt).trans (congrArg some hys))
          exact hyd (hexL_isd l' hl' y hmem)
      by_cases hxd : isd x = true
      case neg =>
        clear hmk
        have hxd2 : isd x = false := by simpa using hxd
        go_wp2_with (first
          | (go_at_call 28; refine (digit_any _ _ (by assumption) (by assumption)).mono ?_; rintro e w2 ⟨rfl, rfl⟩))
        all_goals
          go_ret2
          refine ⟨hos.out.bel, .inr ⟨fun l' hl' he => ?_, rfl⟩⟩
          have hmem : x ∈ hexL l' := by rw [he]; exact List.mem_of_getElem? ((strBytes_at s (m + 1) hlt2).trans (congrArg some hxs))
          exact hxd (hexL_isd l' hl' x hmem)
      obtain ⟨z, hz⟩ : ∃ z : Int, z = bits .or .u8 (dgv y * 16 % 256) (dgv x) := ⟨_, rfl⟩
      have hzz := dgv_or y x hyd hxd
      rw [← hz] at hzz
      have HZ := hid_of hzz
      have hzs : bits .or .u8 (dgv y * 16 % 256) (dgv x) = z := hz.symm
      have HHL : Hid (hexL (l ++ [z]) = (strBytes s).take (m + 2)) := hid_of (by
        rw [hexL_snoc, hhl.out, HZ.out.1, HZ.out.2.1, List.take_add_one, List.take_add_one, strBytes_at s (m + 1) hlt2, strBytes_at s m hlt, hys, hxs]
        simp)
      clear hz hzz
      have HMK := hid_of hmk
      have hk9 : k ≤ 1000000000 := by omega
      clear hmk
      have HOS : ∀ o : Obj, Hid (OS w.heap.size w (wr.alloc o) (.slice ao k cap) l) := fun o => hid_of (OS.alloc hos.out o)
      have HOWN : ∀ o : Obj, Hid ((wr.alloc o).ownsRow w.heap.size 5 1 (.slice ao k cap) k (bs l)) := fun o => hid_of (by have h := (HOS o).out.own; rw [← hkl.out] at h; exact h)
      have hrow : Hid ((wr.alloc (.cells #[.int .u8 z] 5)).heap[wr.heap.size]? = some (.cells #[.int .u8 z] 5 (0, 0))) := hid_of (heap_alloc_new wr _)
      go_wp2_with (first
        | (go_at_call 28; refine (digit_any _ _ (by assumption) (by assumption)).mono ?_; rintro e w2 ⟨rfl, hw2⟩; obtain rfl := hw2.symm)
        | (at_builtin; (refine wpList_append_src _ rfl _ _ 22 22 rfl w.heap.size 5 i0 (.int .u8 0) 1 1 Tryd.underlying22 hi hz0 hz1 hz2 rfl (by decide) (.slice ao k cap) k (bs l) rfl (HOWN _).out (.slice (some ⟨wr.heap.size, 0, none⟩) 1 1) 1 (bs [z]) rfl (Src.ofSlice _ Tryd.underlying22 ⟨wr.heap.size, 0, none⟩ 1 1 (bs [z]) rfl (World.news_of_block hrow.out) (bs_one _)) (by unfold maxLen; omega) (by omega) (OS.size (HOS _).out) ?_); intro v2 w2 hown2 hg2 _ _; have H2 := hid_of (OS.app (HOS _).out hown2 (by rw [hkl.out]; rfl) hg2); obtain ⟨ao2, cap2, rfl⟩ := own_shape hown2; clear hown2 hg2))
      go_roundw
      case rel => exact ⟨k + 1, m + 2, l ++ [z], ao2, cap2, by omega, by have := HMK.out; omega, by go_num, rfl, hid_of (by rw [hkl.out]; simp), HHL, hid_of (by intro t ht; rcases List.mem_append.mp ht with h | h; exact hlb.out t h; simp at h; subst h; exact HZ.out.2.2), H2⟩
      case measure => simp [intOf]; omega
    · obtain rfl : m = s.size := by omega
      have hfull : (strBytes s).take s.size = strBytes s := List.take_of_length_le (by rw [strBytes_length]; exact Nat.le_refl _)
      have HF := hid_of hfull
      have HHL : Hid (hexL l = strBytes s) := hid_of (by rw [← HF.out]; exact hhl.out)
      have HNL : Hid (l.length = k) := hid_of hkl.out.symm
      clear hfull hlt
      go_wp2_with (refine wpList_str _ rfl 22 9 (.tmp 52) rfl 5 Tryd.underlying22 Tryd.underlying5 Tryd.underlying9 ao l k cap HNL.out rfl (OS.src hos.out) ?_)
      go_ret2
      exact ⟨hos.out.bel, .inl ⟨l, hlb.out, HHL.out, rfl⟩⟩
end Go.Proofs.YtejapejkdmcdkaaDoor
