/- Texts in one: CkRs, CkAl, CkNe, CkSs, CkSo, CkLw1. -/
import Derived.Test.YtlffiebnieakjaaDoorMgSA
import Derived.Deep.RegionHeldLaw
set_option linter.unusedVariables false
set_option linter.unusedSimpArgs false
/- Checkpoint: the reference's Slot. Bounds on sizes alone. -/
namespace Go.Proofs.YtlffiebnieakjaaDoor
open Go.RowKit
set_option maxRecDepth 100000
set_option maxHeartbeats 3200000

theorem rd_piece {w : World} {g o n cap lo m : Nat} {D : List Int} (h : Rd w (.slice (some ⟨g, o, none⟩) n cap) (by8 D)) (h0 : 0 < n) (hm : lo + m ≤ n) : Rd w (.slice (some ⟨g, o + lo, none⟩) m (cap - lo)) (by8 ((D.drop lo).take m)) := by
  have hn := rd_cut h
  rw [by8_length] at hn
  obtain ⟨ao, c, e, h2, h3, h4⟩ := h
  cases e
  rw [by8_length] at h2
  obtain ⟨g', o', e', hg, hc⟩ := h4 (by rw [by8_length]; omega)
  cases e'
  have hl : (by8 ((D.drop lo).take m)).length = m := by rw [by8_length, List.length_take, List.length_drop]; omega
  refine ⟨_, cap - lo, by rw [hl], by rw [hl]; omega, by omega, fun h0 => ⟨g, o + lo, rfl, hg, fun j u hu => ?_⟩⟩
  rw [Nat.add_assoc]
  refine hc (lo + j) u ?_
  rw [by8, List.getElem?_map] at hu ⊢
  rw [List.getElem?_take, List.getElem?_drop] at hu
  split at hu
  · exact hu
  · simp at hu
theorem strl_inj' {a b : ByteArray} (h : a.toList = b.toList) : a = b := by
  rw [ByteArray.toList_eq, ByteArray.toList_eq] at h
  cases a with
  | mk da =>
    cases b with
    | mk db =>
      simp at h
      rw [h]
/-- What the reference's Slot gives. -/
def RsQ (o : Option (List Int × Nat)) (w : World) (e : Ending) (w' : World) : Prop := ∃ x m c, e = .returned (.tuple #[.slice x m c, .int .i64 ((o.getD ([], 0)).2 : Nat)]) ∧ Rd w' (.slice x m c) (by8 (o.getD ([], 0)).1) ∧ Below w.heap.size w w'
theorem rsq_none {w w' : World} (h : Below w.heap.size w w') : RsQ none w (.returned (.tuple #[.slice none 0 0, .int .i64 0])) w' := ⟨none, 0, 0, rfl, ⟨none, 0, rfl, Nat.le_refl _, by omega, fun h => by simp [by8] at h⟩, h⟩
theorem rslot_any {S : Nat → Prop} (a : Option Addr) (k cap : Nat) (cc : Nat → List Int) (z : Nat) (w : World) (hR : RB S w (.slice a k cap) ((List.range k).map cc)) (hl : ∀ i, i < k → (cc i).length = z) (hb : ∀ i, i < k → Byt (cc i)) (hk : 2 ≤ k ∧ k ≤ 20) (hz : 44 ≤ z ∧ z ≤ 100) :
    Calls Tryd.prog 30 #[.slice a k cap] w fun e w' => RsQ (slotF Sh.digest (cc 0) (areaF (fun i => cc (i + 1)) (k - 1))) w e w' := by
  obtain ⟨hd, hhd⟩ : ∃ hd, hd = cc 0 := ⟨_, rfl⟩
  obtain ⟨c, hc⟩ : ∃ c : Nat → List Int, c = fun i => cc (i + 1) := ⟨_, rfl⟩
  obtain ⟨bd, hbd⟩ : ∃ bd, bd = areaF c (k - 1) := ⟨_, rfl⟩
  have hdb : Byt hd := by rw [hhd]; exact hb 0 (by omega)
  have hcl : ∀ i, i < k - 1 → (c i).length = z := fun i hi => by rw [hc]; exact hl (i + 1) (by omega)
  have bdb : Byt bd := by
    rw [hbd, areaF_congr (d := fun i => if i < k - 1 then c i else []) (k - 1) (fun i hi => by simp [hi])]
    exact areaF_byt (fun i x hx => by
      by_cases h9 : i < k - 1
      · simp only [h9, if_true] at hx
        rw [hc] at hx
        exact hb (i + 1) (by omega) x hx
      · simp [h9] at hx) _
  have hdl : hd.length = z := by rw [hhd]; exact hl 0 (by omega)
  have bdl : bd.length = (k - 1) * z := by rw [hbd]; exact areaF_len _ hcl
  obtain ⟨R, hRr⟩ : ∃ R, R = (k - 1) * z := ⟨_, rfl⟩
  have hR19 : R ≤ 19 * 100 := by rw [hRr]; exact Nat.mul_le_mul (by omega) hz.2
  obtain ⟨g, hg⟩ : ∃ g, g = numF (hd.take 8) := ⟨_, rfl⟩
  obtain ⟨m, hm⟩ : ∃ m, m = numF ((hd.drop 8).take 4) := ⟨_, rfl⟩
  have g64 : g < 18446744073709551616 := by
    rw [hg]
    have h1 := num_lt (hd.take 8) fun x hx => hdb x (List.mem_of_mem_take hx)
    rw [show (hd.take 8).length = 8 by rw [List.length_take]; omega] at h1
    exact h1
  have m64 : m < 4294967296 := by
    rw [hm]
    have h1 := num_lt ((hd.drop 8).take 4) fun x hx => hdb x (List.mem_of_mem_drop (List.mem_of_mem_take hx))
    rw [show ((hd.drop 8).take 4).length = 4 by rw [List.length_take, List.length_drop]; omega] at h1
    exact h1
  have hsd : slotF Sh.digest hd bd = if g < 1 ∨ maxG < g ∨ R < m ∨ hd ≠ headK Sh.digest z (bd.take m) g then none else some (bd.take m, g) := by
    rw [slotF, hdl, ← hg, ← hm, bdl, ← hRr]
  rw [← hhd, ← hc, ← hbd]
  obtain ⟨o, hO⟩ : ∃ o, o = slotF Sh.digest hd bd := ⟨_, rfl⟩
  rw [← hO]
  rw [hsd] at hO
  have HOO := hid_of hO
  clear hO
  -- the rows as they lie
  have HROW := hid_of (fun (i : Nat) (hi : i < k) => show ∃ (ga oa : Nat) (x : Option Addr) (d : Nat), a = some ⟨ga, oa, none⟩ ∧ ∀ X, Below w.heap.size w X → X.cell? ⟨ga, oa + i, none⟩ = some (.slice x z d) ∧ Rd X (.slice x z d) (by8 (cc i)) from by
    obtain ⟨ga, oa, l, b, d, h1, h2, h3, h4⟩ := hR.entry hi
    have hlc : l = cc i := by
      rw [List.getElem?_map, List.getElem?_range hi] at h1
      simpa using h1.symm
    subst hlc
    rw [hl i hi] at h3 h4
    exact ⟨ga, oa, b, d, h2, fun X hX => ⟨(hX.cell (p := ⟨ga, oa + i, none⟩) (World.block_lt_of_cell? w _ h3)).trans h3, h4.1.at hX⟩⟩)
  obtain ⟨ga, oa, x0, d0, ea, h0⟩ := HROW.out 0 (by omega)
  obtain ⟨gh, oh, ex, _⟩ := rd_at (h0 w (Below.refl _ _)).2 (i := 0) (t := .int .u8 (hd.getD 0 0)) (by
    rw [← hhd, by8, List.getElem?_map, List.getElem?_eq_getElem (by omega), List.getD_eq_getElem?_getD, List.getElem?_eq_getElem (by omega)]; rfl)
  subst ea
  subst ex
  have H0 := hid_of (fun (X : World) (hX : Below w.heap.size w X) => show X.cell? ⟨ga, oa, none⟩ = some (.slice (some ⟨gh, oh, none⟩) z d0) ∧ Rd X (.slice (some ⟨gh, oh, none⟩) z d0) (by8 hd) from by rw [hhd]; exact h0 X hX)
  have zc := (rd_cut (H0.out w (Below.refl _ _)).2).2
  have kc := hR.len.2
  have r00 := (H0.out w (Below.refl _ _)).1
  have HC := hid_of (fun (i : Nat) (hi : i < k - 1) => show cc (i + 1) = c i by rw [hc])
  have HBD := hid_of hbd
  have HBL := hid_of (show bd.length = R from by rw [hRr]; exact bdl)
  have HCL := hid_of hcl
  have HZK := hid_of (show 2 ≤ k ∧ k ≤ 20 ∧ 44 ≤ z ∧ z ≤ 100 ∧ R = (k - 1) * z ∧ R ≤ 1900 by omega)
  have HDB := hid_of hdb
  have HBB := hid_of bdb
  have HG := hid_of (And.intro hg (And.intro hm (And.intro hdl (And.intro g64 m64))))
  have k2 : ¬ (k : Int) < 2 := by omega
  have k2b : decide ((k : Int) < 2) = false := decide_eq_false k2
  have z44 : ¬ (z : Int) < 44 := by omega
  have z44b : decide ((z : Int) < 44) = false := decide_eq_false z44
  have k20 : k ≤ 20 := hk.2
  have k0 : 0 < k := by omega
  have z100 : z ≤ 100 := hz.2
  clear hhd hc hbd hdb hcl bdb bdl hdl hRr hg hm hsd h0 hR hl hb hk hz hR19
  go_enter Tryd.func30, Tryd.ntmps30
  go_wp2
  go_loopw [4, 5] (fun v iv wr => ∃ (i n : Nat) (x : Option Addr) (q : Nat), v = .slice x n q ∧ iv = .int .i64 ((i + 1 : Nat) : Int) ∧ Hid (i + 1 ≤ k) ∧ Hid (n = i * z) ∧ Hid (Ow 5 w.heap.size w wr (.slice x n q) (by8 (areaF c i)))) (fun _ iv _ => 100 - (intOf iv).toNat)
  case atStart => exact ⟨0, 0, none, 0, rfl, rfl, hid_of (by omega), hid_of (by omega), hid_of (ow_nil 5 w)⟩
  case round =>
    obtain ⟨i, n, x, q, rfl, rfl, hi, hn, ho⟩ := hrel
    have i9 : i ≤ 20 := by have := hi.out; omega
    by_cases hlt : i + 1 < k
    · have d1 : ((i + 1 : Nat) : Int) < (k : Int) := by omega
      have d1b : decide (((i + 1 : Nat) : Int) < (k : Int)) = true := decide_eq_true d1
      obtain ⟨g2, o2, xr, dr, e2, hX2⟩ := HROW.out (i + 1) hlt
      cases e2
      obtain ⟨r2, R2⟩ := hX2 wr ho.out.bel
      rw [HC.out i (by omega)] at R2
      have HR2 := hid_of R2
      have HAL := hid_of (show (areaF c i).length = i * z from areaF_len i fun j hj => HCL.out j (by omega))
      have HCI := hid_of (HCL.out i (by omega))
      have HNZ := hid_of (show i * z ≤ 20 * 100 from Nat.mul_le_mul i9 z100)
      have HLT := hid_of hlt
      clear hX2 R2 hlt
      go_wp2_with (at_builtin; (refine wpList_app u8E rfl _ _ rfl (v := .slice x n q) (l := by8 (areaF c i)) rfl ho.out (vx := .slice xr z dr) (m := by8 (c i)) rfl HR2.out (by8_cells _) (by rw [by8_length, by8_length, HAL.out, HCI.out]; have := HNZ.out; omega) (by rw [by8_length, by8_length, HAL.out, HCI.out]; have := HNZ.out; omega) ?_); intro x3 n3 q3 w3 hn3 h3; have H3 : Hid (Ow 5 w.heap.size w w3 (.slice x3 n3 q3) (by8 (areaF c (i + 1)))) := hid_of (by rw [areaF, by8_two]; exact h3); have HN3 := hid_of (show n3 = (i + 1) * z from by rw [hn3, by8_length, by8_length, HAL.out, HCI.out, Nat.succ_mul]); clear h3 hn3)
      go_roundw
      case rel => exact ⟨i + 1, n3, x3, q3, rfl, by go_num, HLT, HN3, H3⟩
      case measure => have := hi.out; simp [intOf]; omega
    · have d1 : ¬ ((i + 1 : Nat) : Int) < (k : Int) := by omega
      have d1b : decide (((i + 1 : Nat) : Int) < (k : Int)) = false := decide_eq_false d1
      have hik : i = k - 1 := by have := hi.out; omega
      have HO : Hid (Ow 5 w.heap.size w wr (.slice x n q) (by8 bd)) := hid_of (by rw [HBD.out, ← hik]; exact ho.out)
      have hnR : n = R := by rw [hn.out, hik, HZK.out.2.2.2.2.1]
      have HB := hid_of ho.out.bel
      subst hnR
      clear hn ho hik hi i9
      have r0w := (H0.out wr HB.out).1
      have CN8 := hid_of (fun (X : World) (hX : Below w.heap.size w X) => show Calls Tryd.prog 41 #[.slice (some ⟨gh, oh, none⟩) 8 d0] X (fun e w' => e = .returned (.int .u64 (g : Nat)) ∧ w' = X) from by
        have R8 := rd_piece (lo := 0) (m := 8) (H0.out X hX).2 (by omega) (by omega)
        rw [Nat.add_zero, Nat.sub_zero, List.drop_zero] at R8
        rw [HG.out.1]
        exact rnumber_any _ 8 d0 (hd.take 8) X R8 (fun y hy => HDB.out y (List.mem_of_mem_take hy)) (by rw [List.length_take]; omega))
      have CN4 := hid_of (fun (X : World) (hX : Below w.heap.size w X) => show Calls Tryd.prog 41 #[.slice (some ⟨gh, oh + 8, none⟩) 4 (d0 - 8)] X (fun e w' => e = .returned (.int .u64 (m : Nat)) ∧ w' = X) from by
        have R4 := rd_piece (lo := 8) (m := 4) (H0.out X hX).2 (by omega) (by omega)
        rw [HG.out.2.1]
        exact rnumber_any _ 4 (d0 - 8) ((hd.drop 8).take 4) X R4 (fun y hy => HDB.out y (List.mem_of_mem_drop (List.mem_of_mem_take hy))) (by rw [List.length_take]; omega))
      have d8 : (8 : Int) ≤ (d0 : Int) := by omega
      have d12 : (12 : Int) ≤ (d0 : Int) := by omega
      have HBd := hid_of (show Below w.heap.size w wr.drew from bel_drewN HB.out 1)
      go_wp2
      go_region_held3 (fun _ => True) (first | exact True.intro | go_keep) (first
        | (go_at_call 41; ((with_reducible refine (CN8.out _ (by first | exact HBd.out | exact HB.out)).mono ?_); (rintro e w4 ⟨rfl, rfl⟩)))
        | (go_at_call 41; ((with_reducible refine (CN4.out _ (by first | exact HBd.out | exact HB.out)).mono ?_); (rintro e w4 ⟨rfl, rfl⟩))))
      have n44 : 44 ≤ n := by rw [HZK.out.2.2.2.2.1]; exact Nat.le_trans HZK.out.2.2.1 (Nat.le_mul_of_pos_left _ (by have := HZK.out.1; omega))
      have n19 : n ≤ 1900 := HZK.out.2.2.2.2.2
      have HOd := hid_of (HO.out.later (bel_drewN (Below.refl wr.heap.size wr) 1))
      obtain ⟨x1, hx1⟩ : ∃ x1, x1 = bd.getD 0 0 := ⟨_, rfl⟩
      have hbn : bd.length = n := HBL.out
      have hRd := HOd.out.rd (by rw [by8_length, hbn]; omega)
      obtain ⟨gx, ox, ex, _⟩ := rd_at hRd (i := 0) (t := .int .u8 x1) (by rw [hx1, by8, List.getElem?_map, List.getElem?_eq_getElem (by omega), List.getD_eq_getElem?_getD, List.getElem?_eq_getElem (by omega)]; rfl)
      subst ex
      have HRD := hid_of hRd
      have qc := (rd_cut hRd).2
      have HBD2 := hid_of (show Below w.heap.size w (wr.drewN 1) from HBd.out)
      clear hRd CN8 CN4 HBd HO HB r0w hx1
      have g1 : IntKind.u64.wrap (n : Int) = (n : Int) := IntWalk.u64_in _ (by omega)
      generalize hwd : wr.drewN 1 = wd at *
      have hwd2 : wr.drew = wd := hwd
      rw [hwd2]
      clear hwd hwd2
      by_cases c1 : g < 1
      · have ho : o = none := by rw [HOO.out, if_pos (Or.inl c1)]
        subst ho
        clear HOO
        obtain rfl : g = 0 := by omega
        go_wp2
        go_ret2
        exact rsq_none HBD2.out
      have l1 : ¬ (g : Int) < 1 := by omega
      have l1b : decide ((g : Int) < 1) = false := decide_eq_false l1
      have l1c : ¬ g = 0 := by omega
      by_cases c2 : maxG < g
      · have ho : o = none := by rw [HOO.out, if_pos (Or.inr (Or.inl c2))]
        subst ho
        clear HOO
        have l2 : 4611686018427387904 < (g : Int) := by unfold maxG at c2; omega
        have l2b : decide (4611686018427387904 < (g : Int)) = true := decide_eq_true l2
        have l2c : 4611686018427387904 < g := c2
        clear c1 c2
        go_wp2
        go_ret2
        exact rsq_none HBD2.out
      have l2 : ¬ 4611686018427387904 < (g : Int) := by unfold maxG at c2; omega
      have l2b : decide (4611686018427387904 < (g : Int)) = false := decide_eq_false l2
      have l2c : ¬ 4611686018427387904 < g := c2
      by_cases c3 : n < m
      · have ho : o = none := by rw [HOO.out, if_pos (Or.inr (Or.inr (Or.inl c3)))]
        subst ho
        clear HOO
        have l3 : (n : Int) < (m : Int) := by omega
        have l3b : decide ((n : Int) < (m : Int)) = true := decide_eq_true l3
        clear c1 c2
        go_wp2
        go_ret2
        exact rsq_none HBD2.out
      have l3 : ¬ (n : Int) < (m : Int) := by omega
      have l3b : decide ((n : Int) < (m : Int)) = false := decide_eq_false l3
      have m1 : IntKind.i64.wrap (m : Int) = (m : Int) := IntWalk.i64_in _ (by omega)
      have gm : IntKind.i64.wrap (g : Int) = (g : Int) := IntWalk.i64_in _ (by omega)
      obtain ⟨ct, hct⟩ : ∃ ct, ct = bd.take m := ⟨_, rfl⟩
      have mn : m ≤ n := by omega
      have mq : m ≤ q := by omega
      have HCT := hid_of (show ct.length = m by rw [hct, List.length_take]; omega)
      have HCB := hid_of (show Byt ct from fun y hy => by rw [hct] at hy; exact HBB.out y (List.mem_of_mem_take hy))
      have RC := rd_piece (lo := 0) (m := m) HRD.out (by omega) (by omega)
      rw [Nat.add_zero, Nat.sub_zero, List.drop_zero, ← hct] at RC
      have HRC := hid_of RC
      have m9 : m ≤ 1900 := by omega
      have HTK := hid_of hct
      have HGE := hid_of (And.intro c1 (And.intro l2c (show ¬ n < m from c3)))
      clear RC hct c1 c2 c3
      obtain ⟨S0, hS0⟩ : ∃ S, S = strOfNums hd := ⟨_, rfl⟩
      have HKC := hid_of (fun (X : World) (hX : Below w.heap.size w X) => show (convert 32 9 (.slice (some ⟨gh, oh, none⟩) z d0)).run Tryd.prog X = .ok (.string S0) X from by rw [hS0]; exact conv_lies (lies_of (H0.out X hX).2))
      have HS0 := hid_of hS0
      clear hS0
      have CHD := hid_of (fun (X : World) (x : Option Addr) (c : Nat) (r : Rd X (.slice x m c) (by8 ct)) => rheader_any x m c ct g z X r HCB.out (by rw [HCT.out]; omega) (by omega) ⟨by have := HZK.out; omega, by omega⟩)
      go_wp2_with (at_builtin; (refine wpList_app u8E rfl _ _ rfl (v := .slice (some ⟨wd.heap.size, 0, none⟩) 0 0) (l := []) rfl (ow_empty 5 wd) (vx := .slice (some ⟨gx, ox, none⟩) m q) (m := by8 ct) rfl (HRC.out.at (bel_alloc wd _)) (by8_cells _) (by rw [by8_length, HCT.out]; simp; omega) (by rw [by8_length, HCT.out]; simp; omega) ?_); intro x5 n5 q5 w5 hn5 h5; have H5 : Hid (Ow 5 wd.heap.size wd w5 (.slice x5 n5 q5) (by8 ct)) := hid_of h5; have HN5 := hid_of (show n5 = m from by rw [hn5, by8_length, HCT.out]; simp); clear h5 hn5)
      have W5 := hid_of (HBD2.out.trans (H5.out.bel.mono HBD2.out.size))
      have RC5 := hid_of (show Rd w5.drew (.slice x5 m q5) (by8 ct) from by
        have h9 := H5.out.rd (by rw [by8_length, HCT.out]; omega)
        rw [HN5.out] at h9
        exact h9.at (bel_drewN (Below.refl _ _) 1))
      have W5d := hid_of (show Below w.heap.size w w5.drew from bel_drewN W5.out 1)
      have en5 : n5 = m := HN5.out
      subst en5
      obtain ⟨SH, hSH⟩ : ∃ S, S = strOfNums (headK Sh.digest z ct g) := ⟨_, rfl⟩
      have HSH := hid_of hSH
      clear hSH
      have HKL := hid_of (show (headK Sh.digest z ct g).length = z from headK_len Sh.digest_length (by have := HZK.out; omega) ct g)
      go_region_held_law (fun X => (convert 32 9 (.slice (some ⟨gh, oh, none⟩) z d0)).run Tryd.prog X = .ok (.string S0) X) (exact HKC.out _ (Hid.out (by with_reducible assumption))) (first
        | (go_at_call 32; (((with_reducible refine (CHD.out _ _ _ RC5.out).mono ?_); (rintro e w6 ⟨x6, c6, rfl, q1⟩)); have W6 := hid_of (W5d.out.trans (q1.bel.mono W5d.out.size)); have R6 := hid_of (RC5.out.at q1.bel); have c7 := conv_lies (lies_of (q1.rd (by rw [by8_length, HKL.out]; omega))); rw [← HSH.out] at c7; clear q1)))
      by_cases c4 : hd = headK Sh.digest z ct g
      · have e4 : S0 = SH := by rw [HSH.out, HS0.out, ← c4]
        have ho : o = some (ct, g) := by
          rw [HOO.out, ← HTK.out, if_neg (show ¬ (g < 1 ∨ maxG < g ∨ n < n5 ∨ hd ≠ headK Sh.digest z ct g) from not_or.2 ⟨HGE.out.1, not_or.2 ⟨HGE.out.2.1, not_or.2 ⟨HGE.out.2.2, fun h9 => h9 c4⟩⟩⟩)]
        have HO4 := hid_of ho
        subst e4
        have s1 : (S0.toList == S0.toList) = true := beq_self_eq_true _
        have s2 : (!(S0.toList == S0.toList)) = false := by rw [s1]; rfl
        rw [s2]
        clear c4 ho HOO
        go_wp2
        go_ret2
        rw [HO4.out]
        refine ⟨x5, n5, q5, ?_, R6.out, W6.out⟩
        rfl
      · have ho : o = none := by rw [HOO.out, ← HTK.out, if_pos (Or.inr (Or.inr (Or.inr c4)))]
        subst ho
        have s1 : (SH.toList == S0.toList) = false := by
          rw [beq_eq_false_iff_ne]
          intro h9
          have h8 := strl_inj' h9
          rw [HSH.out, HS0.out] at h8
          exact c4 ((strs_eq (headK_byt ct g (by have := HZK.out; omega)) HDB.out).1 h8).symm
        have s2 : (!(SH.toList == S0.toList)) = true := by rw [s1]; rfl
        rw [s2]
        clear c4 HOO
        go_wp2
        go_ret2
        exact rsq_none W6.out
end Go.Proofs.YtlffiebnieakjaaDoor

/- Checkpoint: the law's all. Bounds on sizes alone. -/
namespace Go.Proofs.YtlffiebnieakjaaDoor
open Go.RowKit
set_option maxRecDepth 100000
set_option maxHeartbeats 3200000

/-- Sector i, its cache carried out. -/
def secD (M : DM) (i : Nat) : List Int := (flat M).secs.getD i []
/-- Every sector's bytes. -/
def allD (M : DM) : List Int := areaF (secD M) M.secs.length
theorem all_any {B : Nat} {T : Nat → Prop} {b : Nat} {M : DM} (w : World) (h : DR B T w b M) (ho : M.off = false) (hc : M.cache.length ≤ 1000000) (hL : M.secs.length ≤ 100) :
    Calls Tryd.prog 13 #[.pointer (some ⟨b, 0, none⟩)] w fun e w' => e = .returned (.string (strOfNums (allD M))) ∧ Below w.heap.size w w' := by
  obtain ⟨L, hLL⟩ : ∃ L, L = M.secs.length := ⟨_, rfl⟩
  obtain ⟨z, hz⟩ : ∃ z, z = M.sz := ⟨_, rfl⟩
  have hok := h.ok
  have z9 : z ≤ 4096 := by rw [hz]; exact hok.sz
  obtain ⟨c, hcc⟩ : ∃ c, c = secD M := ⟨_, rfl⟩
  have HCL := hid_of (fun (i : Nat) (hi : i < L) => show (c i).length = z from by rw [hcc, hz]; exact flat_con hok (by omega))
  have CSC := hid_of (fun (X : World) (hX : Below w.heap.size w X) => show Calls Tryd.prog 12 #[.pointer (some ⟨b, 0, none⟩)] X (fun e w' => e = .returned (.int .i64 (L : Nat)) ∧ Below X.heap.size X w') from by rw [hLL]; exact (h.bel0 hX).sectors)
  have CRD := hid_of (fun (X : World) (i : Nat) (hi : i < L) (hX : Below w.heap.size w X) => show Calls Tryd.prog 31 #[.pointer (some ⟨b, 0, none⟩), .int .i64 (i : Nat)] X (fun e w' => ∃ x q, e = .returned (.tuple #[.slice x z q, .int .i64 0]) ∧ Rd w' (.slice x z q) (by8 (c i)) ∧ Below X.heap.size X w') from by
    have h9 := (h.bel0 hX).read (i : Int) ⟨by omega, by omega⟩ hc
    rw [(read_flat ho (by omega)).1, (read_flat ho (by omega)).2] at h9
    refine h9.mono fun e w' ⟨x, n, q, q1, q2, q3⟩ => ?_
    have hn := (rd_cut q2).1
    rw [by8_length] at hn
    have hn2 : n = z := by rw [hn, ← HCL.out i hi, hcc]; rfl
    subst hn2
    exact ⟨x, q, q1, by rw [hcc]; exact q2, q3⟩)
  have HALL := hid_of (show allD M = areaF c L from by rw [hcc, hLL]; rfl)
  have L9 : L ≤ 100 := by omega
  obtain ⟨S, hS⟩ : ∃ S, S = strOfNums (allD M) := ⟨_, rfl⟩
  have HS := hid_of hS
  rw [← hS]
  clear hS hLL hz hcc h ho hc hL hok
  go_enter Tryd.func13, Tryd.ntmps13
  go_wp2
  go_loopw [3, 4] (fun v iv wr => ∃ (i n : Nat) (x : Option Addr) (q : Nat), v = .slice x n q ∧ iv = .int .i64 (i : Nat) ∧ Hid (i ≤ L) ∧ Hid (n = i * z) ∧ Hid (Ow 5 w.heap.size w wr (.slice x n q) (by8 (areaF c i)))) (fun _ iv _ => 100 - (intOf iv).toNat)
  case atStart => exact ⟨0, 0, none, 0, rfl, rfl, hid_of (Nat.zero_le _), hid_of (by omega), hid_of (ow_nil 5 w)⟩
  case round =>
    obtain ⟨i, n, x, q, rfl, rfl, hi, hn, ho⟩ := hrel
    have i9 : i ≤ 100 := by have := hi.out; omega
    have HAL := hid_of (show (areaF c i).length = i * z from areaF_len i fun j hj => HCL.out j (by have := hi.out; omega))
    have HNZ := hid_of (show i * z ≤ 100 * 4096 from Nat.mul_le_mul i9 z9)
    by_cases hlt : i < L
    · have d1 : (i : Int) < (L : Int) := by omega
      have d1b : decide ((i : Int) < (L : Int)) = true := decide_eq_true d1
      have HLT := hid_of hlt
      have HCI := hid_of (HCL.out i hlt)
      clear hlt
      go_wp2_with (first
        | (go_at_call 12; ((with_reducible refine (CSC.out wr ho.out.bel).mono ?_); (rintro e w2 ⟨rfl, q1⟩)); have O2 := hid_of (ho.out.later q1); clear q1)
        | (go_at_call 31; ((with_reducible refine (CRD.out w2 i HLT.out O2.out.bel).mono ?_); (rintro e w3 ⟨xr, dr, rfl, q1, q2⟩)); have O3 := hid_of (O2.out.later q2); have R3 := hid_of q1; clear q1 q2)
        | (at_builtin; (refine wpList_app u8E rfl _ _ rfl (v := .slice x n q) (l := by8 (areaF c i)) rfl O3.out (vx := .slice xr z dr) (m := by8 (c i)) rfl R3.out (by8_cells _) (by rw [by8_length, by8_length, HAL.out, HCI.out]; have := HNZ.out; omega) (by rw [by8_length, by8_length, HAL.out, HCI.out]; have := HNZ.out; omega) ?_); intro x4 n4 q4 w4 hn4 h4; have H4 : Hid (Ow 5 w.heap.size w w4 (.slice x4 n4 q4) (by8 (areaF c (i + 1)))) := hid_of (by rw [areaF, by8_two]; exact h4); have HN4 := hid_of (show n4 = (i + 1) * z from by rw [hn4, by8_length, by8_length, HAL.out, HCI.out, Nat.succ_mul]); clear h4 hn4))
      go_roundw
      case rel => exact ⟨i + 1, n4, x4, q4, rfl, by go_num, HLT, HN4, H4⟩
      case measure => have := HLT.out; simp [intOf]; omega
    · have d1 : ¬ (i : Int) < (L : Int) := by omega
      have d1b : decide ((i : Int) < (L : Int)) = false := decide_eq_false d1
      have hiL : i = L := by have := hi.out; omega
      have HCV := hid_of (fun (X : World) (r : Rd X (.slice x n q) (by8 (areaF c i))) => show (convert 32 9 (.slice x n q)).run Tryd.prog X = .ok (.string S) X from by rw [HS.out, HALL.out, ← hiL]; exact conv_lies (lies_of r))
      clear hiL hlt
      go_wp2_with (go_at_call 12; ((with_reducible refine (CSC.out wr ho.out.bel).mono ?_); (rintro e w2 ⟨rfl, q1⟩)); have O2 := hid_of (ho.out.later q1); have cv := HCV.out w2 (O2.out.rd (by rw [by8_length, HAL.out]; have := HNZ.out; omega)); clear q1)
      go_ret
      exact ⟨rfl, O2.out.bel⟩
end Go.Proofs.YtlffiebnieakjaaDoor

/- Checkpoint: the reference's Newest. Bounds on sizes alone. -/
namespace Go.Proofs.YtlffiebnieakjaaDoor
open Go.RowKit
set_option maxRecDepth 100000
set_option maxHeartbeats 3200000

theorem slot_gen {dg : List Int → List Int} {h d c : List Int} {g : Nat} (e : slotF dg h d = some (c, g)) : 1 ≤ g ∧ g ≤ maxG := by
  unfold slotF at e
  simp only [] at e
  split at e
  · cases e
  · rename_i hn
    cases e
    have h1 := (not_or.1 hn).1
    have h2 := (not_or.1 (not_or.1 hn).2).1
    exact ⟨by omega, by omega⟩
theorem newest_nums {a b : Option (List Int × Nat)} (ha : ∀ c g, a = some (c, g) → 1 ≤ g) (hb : ∀ c g, b = some (c, g) → 1 ≤ g) :
    newestF a b = if (a.getD ([], 0)).2 = 0 ∧ (b.getD ([], 0)).2 = 0 then ([], 0, 1) else if (b.getD ([], 0)).2 ≤ (a.getD ([], 0)).2 then ((a.getD ([], 0)).1, (a.getD ([], 0)).2, 0) else ((b.getD ([], 0)).1, (b.getD ([], 0)).2, 1) := by
  cases a with
  | none =>
    cases b with
    | none => rfl
    | some y =>
      obtain ⟨c, g⟩ := y
      have := hb c g rfl
      show (c, g, 1) = if 0 = 0 ∧ g = 0 then ([], 0, 1) else if g ≤ 0 then ([], 0, 0) else (c, g, 1)
      rw [if_neg (show ¬ (0 = 0 ∧ g = 0) from by omega), if_neg (show ¬ g ≤ 0 from by omega)]
  | some x =>
    obtain ⟨c, g⟩ := x
    have h1 := ha c g rfl
    cases b with
    | none =>
      show (c, g, 0) = if g = 0 ∧ 0 = 0 then ([], 0, 1) else if 0 ≤ g then (c, g, 0) else ([], 0, 1)
      rw [if_neg (show ¬ (g = 0 ∧ 0 = 0) from by omega), if_pos (show 0 ≤ g from Nat.zero_le _)]
    | some y =>
      obtain ⟨c2, g2⟩ := y
      have := hb c2 g2 rfl
      show (if g2 ≤ g then (c, g, 0) else (c2, g2, 1)) = if g = 0 ∧ g2 = 0 then ([], 0, 1) else if g2 ≤ g then (c, g, 0) else (c2, g2, 1)
      rw [if_neg (show ¬ (g = 0 ∧ g2 = 0) from by omega)]
/-- What the reference's Newest gives. -/
def NeQ (r : List Int × Nat × Nat) (w : World) (e : Ending) (w' : World) : Prop := ∃ x m c, e = .returned (.tuple #[.slice x m c, .int .i64 (r.2.1 : Nat), .int .i64 (r.2.2 : Nat)]) ∧ Rd w' (.slice x m c) (by8 r.1) ∧ Below w.heap.size w w'
theorem rnewest_any {S : Nat → Prop} (a0 : Option Addr) (k0 p0 : Nat) (cc0 : Nat → List Int) (a1 : Option Addr) (k1 p1 : Nat) (cc1 : Nat → List Int) (z : Nat) (w : World) (hR0 : RB S w (.slice a0 k0 p0) ((List.range k0).map cc0)) (hl0 : ∀ i, i < k0 → (cc0 i).length = z) (hb0 : ∀ i, i < k0 → Byt (cc0 i)) (hR1 : RB S w (.slice a1 k1 p1) ((List.range k1).map cc1)) (hl1 : ∀ i, i < k1 → (cc1 i).length = z) (hb1 : ∀ i, i < k1 → Byt (cc1 i)) (hk0 : 2 ≤ k0 ∧ k0 ≤ 20) (hk1 : 2 ≤ k1 ∧ k1 ≤ 20) (hz : 44 ≤ z ∧ z ≤ 100) :
    Calls Tryd.prog 16 #[.agg #[.slice a0 k0 p0, .slice a1 k1 p1]] w fun e w' => NeQ (newestF (slotF Sh.digest (cc0 0) (areaF (fun i => cc0 (i + 1)) (k0 - 1))) (slotF Sh.digest (cc1 0) (areaF (fun i => cc1 (i + 1)) (k1 - 1)))) w e w' := by
  obtain ⟨o0, h0⟩ : ∃ o, o = slotF Sh.digest (cc0 0) (areaF (fun i => cc0 (i + 1)) (k0 - 1)) := ⟨_, rfl⟩
  obtain ⟨o1, h1⟩ : ∃ o, o = slotF Sh.digest (cc1 0) (areaF (fun i => cc1 (i + 1)) (k1 - 1)) := ⟨_, rfl⟩
  have ge0 : (o0.getD ([], 0)).2 ≤ maxG := by
    cases ho : o0 with
    | none => exact Nat.zero_le _
    | some y => exact (slot_gen (c := y.1) (g := y.2) (by rw [← h0, ho])).2
  have ge1 : (o1.getD ([], 0)).2 ≤ maxG := by
    cases ho : o1 with
    | none => exact Nat.zero_le _
    | some y => exact (slot_gen (c := y.1) (g := y.2) (by rw [← h1, ho])).2
  have hne := newest_nums (a := o0) (b := o1) (fun c g e => (slot_gen (by rw [← h0]; exact e)).1) (fun c g e => (slot_gen (by rw [← h1]; exact e)).1)
  have C0 := hid_of (fun (X : World) (hX : Below w.heap.size w X) => show Calls Tryd.prog 30 #[.slice a0 k0 p0] X (fun e w' => RsQ o0 X e w') from by rw [h0]; exact rslot_any a0 k0 p0 cc0 z X (hR0.keep (keeps_belw hX)) hl0 hb0 hk0 hz)
  have C1 := hid_of (fun (X : World) (hX : Below w.heap.size w X) => show Calls Tryd.prog 30 #[.slice a1 k1 p1] X (fun e w' => RsQ o1 X e w') from by rw [h1]; exact rslot_any a1 k1 p1 cc1 z X (hR1.keep (keeps_belw hX)) hl1 hb1 hk1 hz)
  rw [← h0, ← h1]
  obtain ⟨l0, hl0'⟩ : ∃ l, l = (o0.getD ([], 0)).1 := ⟨_, rfl⟩
  obtain ⟨g0, hg0⟩ : ∃ g, g = (o0.getD ([], 0)).2 := ⟨_, rfl⟩
  obtain ⟨l1, hl1'⟩ : ∃ l, l = (o1.getD ([], 0)).1 := ⟨_, rfl⟩
  obtain ⟨g1, hg1⟩ : ∃ g, g = (o1.getD ([], 0)).2 := ⟨_, rfl⟩
  rw [← hl0', ← hg0, ← hl1', ← hg1] at hne
  rw [← hg0] at ge0
  rw [← hg1] at ge1
  obtain ⟨r, hr⟩ : ∃ r, r = newestF o0 o1 := ⟨_, rfl⟩
  rw [← hr] at hne ⊢
  unfold maxG at ge0 ge1
  unfold RsQ at C0 C1
  rw [← hl0', ← hg0] at C0
  rw [← hl1', ← hg1] at C1
  have bw := bel_alloc w (.cells #[.slice a0 k0 p0, .slice a1 k1 p1] 37)
  have HBX := hid_of (fun (X : World) (hX : Below (w.alloc (.cells #[.slice a0 k0 p0, .slice a1 k1 p1] 37)).heap.size (w.alloc (.cells #[.slice a0 k0 p0, .slice a1 k1 p1] 37)) X) => show X.cell? ⟨w.heap.size, 0, none⟩ = some (.slice a0 k0 p0) ∧ X.cell? ⟨w.heap.size, 1, none⟩ = some (.slice a1 k1 p1) ∧ Below w.heap.size w X from by
    have e := (hX.block w.heap.size (by simp)).trans (heap_alloc_new w _)
    exact ⟨cell_blk (cs := [.slice a0 k0 p0, .slice a1 k1 p1]) e rfl, cell_blk (cs := [.slice a0 k0 p0, .slice a1 k1 p1]) e rfl, bw.trans (hX.mono bw.size)⟩)
  have HR := hid_of hne
  have HB0 := hid_of (show Below w.heap.size w (w.alloc (.cells #[.slice a0 k0 p0, .slice a1 k1 p1] 37)) from bw)
  clear hne hr h0 h1 hl0' hl1' hg0 hg1 hR0 hR1 hl0 hl1 hb0 hb1 hk0 hk1 hz bw
  go_enter Tryd.func16, Tryd.ntmps16
  by_cases c0 : g0 = 0
  · by_cases c1 : g1 = 0
    · have hr : r = ([], 0, 1) := by rw [HR.out, if_pos ⟨c0, c1⟩]
      subst hr c0 c1
      clear HR
      go_wp2_with (first
      | (go_at_call 30; ((with_reducible refine (C0.out _ HB0.out).mono ?_); (rintro e w2 ⟨x2, m2, c2, rfl, q1, q2⟩)); have R2 := hid_of q1; have B2 := hid_of q2; obtain ⟨b0, b1, b2⟩ := HBX.out w2 q2; have E2 := hid_of b2; clear q1 q2 b2)
      | (go_at_call 30; ((with_reducible refine (C1.out w2 E2.out).mono ?_); (rintro e w3 ⟨x3, m3, c3, rfl, q1, q2⟩)); have R3 := hid_of q1; have R2' := hid_of (R2.out.at q2); have E3 := hid_of (E2.out.trans (q2.mono E2.out.size)); clear q1 q2))
      go_ret3
      exact ⟨none, 0, 0, rfl, ⟨none, 0, rfl, Nat.le_refl _, by omega, fun h => by simp [by8] at h⟩, E3.out⟩
    · have hr : r = (l1, g1, 1) := by rw [HR.out, if_neg (fun h => c1 h.2), if_neg (by omega)]
      subst hr c0
      have d1 : ¬ (g1 : Int) ≤ 0 := by omega
      have d2 : ¬ (g1 : Int) = 0 := by omega
      clear HR
      go_wp2_with (first
      | (go_at_call 30; ((with_reducible refine (C0.out _ HB0.out).mono ?_); (rintro e w2 ⟨x2, m2, c2, rfl, q1, q2⟩)); have R2 := hid_of q1; have B2 := hid_of q2; obtain ⟨b0, b1, b2⟩ := HBX.out w2 q2; have E2 := hid_of b2; clear q1 q2 b2)
      | (go_at_call 30; ((with_reducible refine (C1.out w2 E2.out).mono ?_); (rintro e w3 ⟨x3, m3, c3, rfl, q1, q2⟩)); have R3 := hid_of q1; have R2' := hid_of (R2.out.at q2); have E3 := hid_of (E2.out.trans (q2.mono E2.out.size)); clear q1 q2))
      go_ret3
      exact ⟨x3, m3, c3, rfl, R3.out, E3.out⟩
  · have e1 : ¬ (g0 : Int) = 0 := by omega
    have e1b : ((g0 : Int) == 0) = false := beq_eq_false_iff_ne.2 e1
    by_cases c1 : g1 ≤ g0
    · have hr : r = (l0, g0, 0) := by rw [HR.out, if_neg (fun h => c0 h.1), if_pos c1]
      subst hr
      have d1 : (g1 : Int) ≤ (g0 : Int) := by omega
      have d1b : decide ((g1 : Int) ≤ (g0 : Int)) = true := decide_eq_true d1
      clear HR
      go_wp2_with (first
      | (go_at_call 30; ((with_reducible refine (C0.out _ HB0.out).mono ?_); (rintro e w2 ⟨x2, m2, c2, rfl, q1, q2⟩)); have R2 := hid_of q1; have B2 := hid_of q2; obtain ⟨b0, b1, b2⟩ := HBX.out w2 q2; have E2 := hid_of b2; clear q1 q2 b2)
      | (go_at_call 30; ((with_reducible refine (C1.out w2 E2.out).mono ?_); (rintro e w3 ⟨x3, m3, c3, rfl, q1, q2⟩)); have R3 := hid_of q1; have R2' := hid_of (R2.out.at q2); have E3 := hid_of (E2.out.trans (q2.mono E2.out.size)); clear q1 q2))
      go_ret3
      exact ⟨x2, m2, c2, rfl, R2'.out, E3.out⟩
    · have hr : r = (l1, g1, 1) := by rw [HR.out, if_neg (fun h => c0 h.1), if_neg c1]
      subst hr
      have d1 : ¬ (g1 : Int) ≤ (g0 : Int) := by omega
      have d1b : decide ((g1 : Int) ≤ (g0 : Int)) = false := decide_eq_false d1
      clear HR
      go_wp2_with (first
      | (go_at_call 30; ((with_reducible refine (C0.out _ HB0.out).mono ?_); (rintro e w2 ⟨x2, m2, c2, rfl, q1, q2⟩)); have R2 := hid_of q1; have B2 := hid_of q2; obtain ⟨b0, b1, b2⟩ := HBX.out w2 q2; have E2 := hid_of b2; clear q1 q2 b2)
      | (go_at_call 30; ((with_reducible refine (C1.out w2 E2.out).mono ?_); (rintro e w3 ⟨x3, m3, c3, rfl, q1, q2⟩)); have R3 := hid_of q1; have R2' := hid_of (R2.out.at q2); have E3 := hid_of (E2.out.trans (q2.mono E2.out.size)); clear q1 q2))
      go_ret3
      exact ⟨x3, m3, c3, rfl, R3.out, E3.out⟩
end Go.Proofs.YtlffiebnieakjaaDoor

/- Checkpoint: the law's slots: a row of rows being filled in one box. Bounds on sizes alone. -/
namespace Go.Proofs.YtlffiebnieakjaaDoor
open Go.RowKit
set_option maxRecDepth 100000
set_option maxHeartbeats 1600000

theorem rowE : Elem Tryd.prog 22 32 (.slice none 0 0) 24 := ⟨Tryd.underlying22, by kernel_rfl, rfl⟩
/-- A sector is read into a row of the call's own. -/
theorem DR.read2 {B : Nat} {T : Nat → Prop} {w : World} {b : Nat} {M : DM} (h : DR B T w b M) (s : Nat) (hs : s < M.secs.length) (ho : M.off = false) (hc : M.cache.length ≤ 1000000) : Calls Tryd.prog 31 #[.pointer (some ⟨b, 0, none⟩), .int .i64 (s : Nat)] w fun e w' => ∃ x q, e = .returned (.tuple #[.slice x M.sz q, .int .i64 0]) ∧ CR (fun k => w.heap.size ≤ k) w' (.slice x M.sz q) (secD M s) ∧ Below w.heap.size w w' := by
  have hsl := h.ok.secs
  have hlen : (secD M s).length = M.sz := flat_con h.ok hs
  obtain ⟨SD, h1, _⟩ := h
  refine (IG.read (s : Int) ⟨by omega, by omega⟩ hc h1).mono fun e w' ⟨⟨x, n, q, q1, q2, q3⟩, q4⟩ => ?_
  rw [(read_flat ho hs).1] at q2
  have h8 := q4 x n q q1
  rw [(read_flat ho hs).1] at h8
  rw [(read_flat ho hs).2] at q1
  have hn := (rd_cut q2).1
  rw [by8_length] at hn
  have hn2 : n = M.sz := by rw [hn]; exact hlen
  subst hn2
  exact ⟨x, q, q1, ⟨q2, fun _ a n c e => by
    have := (h8.lt a.block (by rw [e]; rfl)).1
    exact this⟩, q3⟩
/-- The blocks that an element may lie in. -/
def Sb (w : World) (s0 s1 : Value) (k : Nat) : Prop := w.heap.size + 2 ≤ k ∧ s0.ownBlock ≠ some k ∧ s1.ownBlock ≠ some k
/-- The box while it is filled. -/
structure SS (w : World) (c : Nat → List Int) (z n : Nat) (X : World) (s0 s1 : Value) (l0 l1 : List Value) : Prop where
  bel : Below w.heap.size w X
  sz : w.heap.size + 2 ≤ X.heap.size
  b4 : X.heap[w.heap.size]? = some (.cells #[.slice none 0 0, .slice none 0 0] 37 (0, 0))
  b5 : X.heap[w.heap.size + 1]? = some (.cells #[s0, s1] 37 (0, 0))
  o0 : X.ownsRow (w.heap.size + 2) 32 1 s0 l0.length l0
  o1 : X.ownsRow (w.heap.size + 2) 32 1 s1 l1.length l1
  dis : ∀ k, s0.ownBlock = some k → s1.ownBlock ≠ some k
  e0 : ∀ j u, l0[j]? = some u → ∃ x q, u = .slice x z q ∧ CR (Sb w s0 s1) X u (c j)
  e1 : ∀ j u, l1[j]? = some u → ∃ x q, u = .slice x z q ∧ CR (Sb w s0 s1) X u (c (n + j))
theorem ss_keep {S : Nat → Prop} {X X2 X4 : World} {o : Obj} {ob : Option Nat} {g j : Nat} {v : Value} (hb : Below X.heap.size X X2) (hg : (X2.alloc o).drew.grownBy X4 ob) (hS : ∀ k, S k → ob ≠ some k ∧ k ≠ g) : Keeps S X (X4.setCell ⟨g, j, none⟩ v) :=
  ((keeps_belw hb).trans (keeps_belw (bel_alloc X2 o).drew)).trans ((keeps_grown hg fun k hk => (hS k hk).1).trans (keeps_set _ g j v fun hk => (hS g hk).2 rfl))
theorem SS.step0 {w X X2 X4 : World} {c : Nat → List Int} {z n : Nat} {s0 s1 : Value} {l0 l1 : List Value} (h : SS w c z n X s0 s1 l0 l1) (hb : Below X.heap.size X X2) {x : Option Addr} {q : Nat} {u : Value} (hx : u = .slice x z q) (hu : CR (fun k => X.heap.size ≤ k) X2 u (c l0.length)) {o : Obj} {a : Option Addr} {m cap : Nat}
    (hown : X4.ownsRow (w.heap.size + 2) 32 1 (.slice a m cap) (l0.length + 1) (l0 ++ [u])) (hg : (X2.alloc o).drew.grownBy X4 s0.ownBlock) (hf : (Value.slice a m cap).ownBlock = s0.ownBlock ∨ (Value.slice a m cap).ownBlock = some (X2.alloc o).drew.heap.size) :
    SS w c z n (X4.setCell ⟨w.heap.size + 1, 0, none⟩ (.slice a m cap)) (.slice a m cap) s1 (l0 ++ [u]) l1 := by
  subst hx
  have hsz := h.sz
  have hb2 := hb.size
  have hA : (X2.alloc o).drew.heap.size = X2.heap.size + 1 := by show (X2.alloc o).heap.size = _; simp
  have hg2 := hg.size
  rw [hA] at hg2 hf
  have ob : ∀ k, s0.ownBlock = some k → w.heap.size + 2 ≤ k ∧ k < X.heap.size := fun k e => h.o0.lt k e
  have oo : ∀ k, s1.ownBlock = some k → w.heap.size + 2 ≤ k ∧ k < X.heap.size := fun k e => h.o1.lt k e
  have on : ∀ k, (Value.slice a m cap).ownBlock = some k → w.heap.size + 2 ≤ k ∧ k < X4.heap.size := fun k e => hown.lt k e
  have kE : Keeps (fun k => Sb w s0 s1 k ∧ k < X.heap.size) X (X4.setCell ⟨w.heap.size + 1, 0, none⟩ (.slice a m cap)) := ss_keep hb hg fun k hk => ⟨hk.1.2.1, by have := hk.1.1; omega⟩
  have kO : Keeps (fun k => s1.ownBlock = some k) X (X4.setCell ⟨w.heap.size + 1, 0, none⟩ (.slice a m cap)) := ss_keep hb hg fun k hk => ⟨fun e => h.dis k e hk, by have := oo k hk; omega⟩
  have k4 : Keeps (fun k => k ≤ w.heap.size) X (X4.setCell ⟨w.heap.size + 1, 0, none⟩ (.slice a m cap)) := ss_keep hb hg fun k hk => ⟨fun e => by have := ob k e; omega, by omega⟩
  have kN : Keeps (fun k => X.heap.size ≤ k ∧ k < X2.heap.size) X2 (X4.setCell ⟨w.heap.size + 1, 0, none⟩ (.slice a m cap)) := (keeps_belw (bel_alloc X2 o).drew).trans ((keeps_grown hg fun k hk e => by have := ob k e; omega).trans (keeps_set _ _ 0 _ fun hk => by have := hk.1; omega))
  have hS2 : ∀ k, (Sb w s0 s1 k ∧ k < X.heap.size) → Sb w (.slice a m cap) s1 k := fun k hk => ⟨hk.1.1, by rcases hf with e | e; rw [e]; exact hk.1.2.1; rw [e]; intro e9; cases e9; have := hk.2; omega, hk.1.2.2⟩
  have hS3 : ∀ k, (X.heap.size ≤ k ∧ k < X2.heap.size) → Sb w (.slice a m cap) s1 k := fun k hk => ⟨by omega, by rcases hf with e | e; rw [e]; intro e9; have := ob k e9; omega; rw [e]; intro e9; cases e9; omega, fun e9 => by have := oo k e9; omega⟩
  have hb5 : X4.heap[w.heap.size + 1]? = some (.cells [s0, s1].toArray 37 (0, 0)) := (hg.block _ (by omega) (fun e => by have := ob _ e.symm; omega)).trans (((bel_alloc X2 o).drew.block _ (by omega)).trans ((hb.block _ (by omega)).trans h.b5))
  refine ⟨?_, ?_, ?_, ?_, ?_, ?_, ?_, ?_, ?_⟩
  · exact (((h.bel.trans (hb.mono (by omega))).trans ((bel_alloc X2 o).drew.mono (by omega))).grown hg (by omega) (fun k hk => by have := ob k hk; omega)).setCell (p := ⟨w.heap.size + 1, 0, none⟩) (by show w.heap.size ≤ w.heap.size + 1; omega) _
  · simp; omega
  · exact (k4.2 _ (Nat.le_refl _) (by omega)).trans h.b4
  · exact blk_setCell (k := 0) (cur := [s0, s1]) hb5
  · rw [List.length_append]
    exact own_same hown fun k hk => Below.heap_setCell _ _ _ _ (fun e => by have := on k hk; have e2 : k = w.heap.size + 1 := e; omega)
  · exact own_same h.o1 fun k hk => kO.2 k hk (oo k hk).2
  · intro k e1 e2
    rcases hf with e | e
    · rw [e] at e1; exact h.dis k e1 e2
    · rw [e] at e1; cases e1; have := oo _ e2; omega
  · intro i u' hi
    rcases Nat.lt_or_ge i l0.length with h9 | h9
    · rw [List.getElem?_append_left h9] at hi
      obtain ⟨x', q', e, hc⟩ := h.e0 i u' hi
      exact ⟨x', q', e, (hc.lt.keep kE).mono hS2⟩
    · have hi2 : i = l0.length := by
        rcases Nat.lt_or_ge l0.length i with h8 | h8
        · rw [List.getElem?_eq_none (by rw [List.length_append]; simp; omega)] at hi; cases hi
        · omega
      subst hi2
      rw [List.getElem?_append_right (Nat.le_refl _), Nat.sub_self] at hi
      cases hi
      exact ⟨x, q, rfl, (hu.lt.keep kN).mono hS3⟩
  · intro i u' hi
    obtain ⟨x', q', e, hc⟩ := h.e1 i u' hi
    exact ⟨x', q', e, (hc.lt.keep kE).mono hS2⟩
theorem SS.step1 {w X X2 X4 : World} {c : Nat → List Int} {z n : Nat} {s0 s1 : Value} {l0 l1 : List Value} (h : SS w c z n X s0 s1 l0 l1) (hb : Below X.heap.size X X2) {x : Option Addr} {q : Nat} {u : Value} (hx : u = .slice x z q) (hu : CR (fun k => X.heap.size ≤ k) X2 u (c (n + l1.length))) {o : Obj} {a : Option Addr} {m cap : Nat}
    (hown : X4.ownsRow (w.heap.size + 2) 32 1 (.slice a m cap) (l1.length + 1) (l1 ++ [u])) (hg : (X2.alloc o).drew.grownBy X4 s1.ownBlock) (hf : (Value.slice a m cap).ownBlock = s1.ownBlock ∨ (Value.slice a m cap).ownBlock = some (X2.alloc o).drew.heap.size) :
    SS w c z n (X4.setCell ⟨w.heap.size + 1, 1, none⟩ (.slice a m cap)) s0 (.slice a m cap) l0 (l1 ++ [u]) := by
  subst hx
  have hsz := h.sz
  have hb2 := hb.size
  have hA : (X2.alloc o).drew.heap.size = X2.heap.size + 1 := by show (X2.alloc o).heap.size = _; simp
  have hg2 := hg.size
  rw [hA] at hg2 hf
  have ob : ∀ k, s1.ownBlock = some k → w.heap.size + 2 ≤ k ∧ k < X.heap.size := fun k e => h.o1.lt k e
  have oo : ∀ k, s0.ownBlock = some k → w.heap.size + 2 ≤ k ∧ k < X.heap.size := fun k e => h.o0.lt k e
  have on : ∀ k, (Value.slice a m cap).ownBlock = some k → w.heap.size + 2 ≤ k ∧ k < X4.heap.size := fun k e => hown.lt k e
  have kE : Keeps (fun k => Sb w s0 s1 k ∧ k < X.heap.size) X (X4.setCell ⟨w.heap.size + 1, 1, none⟩ (.slice a m cap)) := ss_keep hb hg fun k hk => ⟨hk.1.2.2, by have := hk.1.1; omega⟩
  have kO : Keeps (fun k => s0.ownBlock = some k) X (X4.setCell ⟨w.heap.size + 1, 1, none⟩ (.slice a m cap)) := ss_keep hb hg fun k hk => ⟨fun e => h.dis k hk e, by have := oo k hk; omega⟩
  have k4 : Keeps (fun k => k ≤ w.heap.size) X (X4.setCell ⟨w.heap.size + 1, 1, none⟩ (.slice a m cap)) := ss_keep hb hg fun k hk => ⟨fun e => by have := ob k e; omega, by omega⟩
  have kN : Keeps (fun k => X.heap.size ≤ k ∧ k < X2.heap.size) X2 (X4.setCell ⟨w.heap.size + 1, 1, none⟩ (.slice a m cap)) := (keeps_belw (bel_alloc X2 o).drew).trans ((keeps_grown hg fun k hk e => by have := ob k e; omega).trans (keeps_set _ _ 1 _ fun hk => by have := hk.1; omega))
  have hS2 : ∀ k, (Sb w s0 s1 k ∧ k < X.heap.size) → Sb w s0 (.slice a m cap) k := fun k hk => ⟨hk.1.1, hk.1.2.1, by rcases hf with e | e; rw [e]; exact hk.1.2.2; rw [e]; intro e9; cases e9; have := hk.2; omega⟩
  have hS3 : ∀ k, (X.heap.size ≤ k ∧ k < X2.heap.size) → Sb w s0 (.slice a m cap) k := fun k hk => ⟨by omega, fun e9 => by have := oo k e9; omega, by rcases hf with e | e; rw [e]; intro e9; have := ob k e9; omega; rw [e]; intro e9; cases e9; omega⟩
  have hb5 : X4.heap[w.heap.size + 1]? = some (.cells [s0, s1].toArray 37 (0, 0)) := (hg.block _ (by omega) (fun e => by have := ob _ e.symm; omega)).trans (((bel_alloc X2 o).drew.block _ (by omega)).trans ((hb.block _ (by omega)).trans h.b5))
  refine ⟨?_, ?_, ?_, ?_, ?_, ?_, ?_, ?_, ?_⟩
  · exact (((h.bel.trans (hb.mono (by omega))).trans ((bel_alloc X2 o).drew.mono (by omega))).grown hg (by omega) (fun k hk => by have := ob k hk; omega)).setCell (p := ⟨w.heap.size + 1, 1, none⟩) (by show w.heap.size ≤ w.heap.size + 1; omega) _
  · simp; omega
  · exact (k4.2 _ (Nat.le_refl _) (by omega)).trans h.b4
  · exact blk_setCell (k := 1) (cur := [s0, s1]) hb5
  · exact own_same h.o0 fun k hk => kO.2 k hk (oo k hk).2
  · rw [List.length_append]
    exact own_same hown fun k hk => Below.heap_setCell _ _ _ _ (fun e => by have := on k hk; have e2 : k = w.heap.size + 1 := e; omega)
  · intro k e1 e2
    rcases hf with e | e
    · rw [e] at e2; exact h.dis k e1 e2
    · rw [e] at e2; cases e2; have := oo _ e1; omega
  · intro i u' hi
    obtain ⟨x', q', e, hc⟩ := h.e0 i u' hi
    exact ⟨x', q', e, (hc.lt.keep kE).mono hS2⟩
  · intro i u' hi
    rcases Nat.lt_or_ge i l1.length with h9 | h9
    · rw [List.getElem?_append_left h9] at hi
      obtain ⟨x', q', e, hc⟩ := h.e1 i u' hi
      exact ⟨x', q', e, (hc.lt.keep kE).mono hS2⟩
    · have hi2 : i = l1.length := by
        rcases Nat.lt_or_ge l1.length i with h8 | h8
        · rw [List.getElem?_eq_none (by rw [List.length_append]; simp; omega)] at hi; cases hi
        · omega
      subst hi2
      rw [List.getElem?_append_right (Nat.le_refl _), Nat.sub_self] at hi
      cases hi
      exact ⟨x, q, rfl, (hu.lt.keep kN).mono hS3⟩
end Go.Proofs.YtlffiebnieakjaaDoor

/- Checkpoint: the law's slots. Bounds on sizes alone. -/
namespace Go.Proofs.YtlffiebnieakjaaDoor
open Go.RowKit
set_option maxRecDepth 100000
set_option maxHeartbeats 3200000

theorem step_app4 {ops : Array Oper} {o : Oper} {a : Act} {w : World} {K : Act → World → Prop} {Q : Exit → Act → World → Prop} {F : Prop} (hgd : o.guard = none) (s x : Operand)
    (ho : o.op = .call { callee := .builtin .append, args := #[s, x], argTypes := #[22, 22] })
    {B : Nat} {v : Value} {l : List Value} (hv : a.eval s = v) (H : w.ownsRow B 32 1 v l.length l) (hB : B ≤ w.heap.size) {vx u : Value} (hx : a.eval x = vx) (L : Rd w vx [u]) (h1 : u.oneCell' = true) (hl : l.length ≤ 1000)
    (h : ∀ (ao : Option Addr) (n cap : Nat) (w' : World), n = l.length + 1 → w'.ownsRow B 32 1 (.slice ao n cap) (l.length + 1) (l ++ [u]) → w.grownBy w' v.ownBlock → ((Value.slice ao n cap).ownBlock = v.ownBlock ∨ (Value.slice ao n cap).ownBlock = some w.heap.size) → K (a.put o.dst (.slice ao n cap)) w') :
    if Region.wanted o (yielded ops a.tmps) = true then Oper.wp Tryd.prog o a w K Q else F := by
  obtain ⟨i0, hi, hz0, hz1, hz2⟩ := info_parts rowE.info
  refine step_append_src _ hgd s x _ _ ho B 32 i0 (.slice none 0 0) 1 24 rowE.und hi hz0 hz1 hz2 rowE.one (by decide) v l.length l hv H vx 1 [u] hx (L.srcs rowE (by intro y hy; rw [List.mem_singleton.1 hy]; exact h1)) (by unfold maxLen; omega) (by omega) hB ?_
  intro v2 w2 hown hg _ hf
  obtain ⟨ao, cap, rfl⟩ := own_shape hown
  exact h ao _ cap w2 rfl hown hg hf
theorem SS.start (w : World) (c : Nat → List Int) (z n : Nat) : SS w c z n ((w.alloc (.cells #[.slice none 0 0, .slice none 0 0] 37)).alloc (.cells #[.slice none 0 0, .slice none 0 0] 37)) (.slice none 0 0) (.slice none 0 0) [] [] := by
  have b1 := bel_alloc w (.cells #[.slice none 0 0, .slice none 0 0] 37)
  have b2 := bel_alloc (w.alloc (.cells #[.slice none 0 0, .slice none 0 0] 37)) (.cells #[.slice none 0 0, .slice none 0 0] 37)
  have s1 : (w.alloc (.cells #[.slice none 0 0, .slice none 0 0] 37)).heap.size = w.heap.size + 1 := by simp
  have h1 := heap_alloc_new w (.cells #[.slice none 0 0, .slice none 0 0] 37)
  have h2 := heap_alloc_new (w.alloc (.cells #[.slice none 0 0, .slice none 0 0] 37)) (.cells #[.slice none 0 0, .slice none 0 0] 37)
  rw [s1] at h2
  exact ⟨b1.trans (b2.mono (by omega)), by simp, (b2.block _ (by omega)).trans h1, h2, World.ownsRow_nil _ _ _ _, World.ownsRow_nil _ _ _ _, fun k e => by simp [Value.ownBlock] at e, fun j u e => by simp at e, fun j u e => by simp at e⟩
theorem SS.later {w X X' : World} {c : Nat → List Int} {z n : Nat} {s0 s1 : Value} {l0 l1 : List Value} (h : SS w c z n X s0 s1 l0 l1) (hb : Below X.heap.size X X') : SS w c z n X' s0 s1 l0 l1 := by
  have hsz := h.sz
  exact ⟨h.bel.trans (hb.mono (by omega)), Nat.le_trans h.sz hb.size, (hb.block _ (by omega)).trans h.b4, (hb.block _ (by omega)).trans h.b5, own_same h.o0 fun k hk => hb.block k (h.o0.lt k hk).2, own_same h.o1 fun k hk => hb.block k (h.o1.lt k hk).2, h.dis, fun j u e => by
    obtain ⟨x, q, e1, e2⟩ := h.e0 j u e
    exact ⟨x, q, e1, e2.keep (keeps_belw hb)⟩, fun j u e => by
    obtain ⟨x, q, e1, e2⟩ := h.e1 j u e
    exact ⟨x, q, e1, e2.keep (keeps_belw hb)⟩⟩
theorem ss_rb {w X X' : World} {S : Nat → Prop} {s : Value} {l : List Value} {n z : Nat} {c : Nat → List Int} (own : X.ownsRow (w.heap.size + 2) 32 1 s l.length l) (hn : l.length = n) (hs : w.heap.size + 2 ≤ X.heap.size) (hn9 : n ≤ 1000) (kb : ∀ k, s.ownBlock = some k → X'.heap[k]? = X.heap[k]?) (ke : Keeps S X X') (hS : ∀ k, S k → w.heap.size ≤ k) (e : ∀ j u, l[j]? = some u → ∃ x q, u = .slice x z q ∧ CR S X u (c j)) : RB (fun k => w.heap.size ≤ k) X' s ((List.range n).map c) := by
  have own' := own_same own kb
  have hr : Rd X' s l := Ow.rd (w0 := X') (B := w.heap.size + 2) ⟨Nat.le_trans hs ke.1, Below.refl _ _, own'⟩ (by omega)
  refine ⟨l, hr, fun _ a n c e => by have := (own.lt a.block (by rw [e]; rfl)).1; omega, by simp [hn], fun i x li hx hl => ?_⟩
  have hi : i < n := by rw [← hn]; exact (List.getElem?_eq_some_iff.1 hx).1
  rw [List.getElem?_map, List.getElem?_range hi] at hl
  cases hl
  obtain ⟨_, _, _, hc⟩ := e i x hx
  exact (hc.keep ke).mono hS
theorem SS.box0 {w X X4 : World} {c : Nat → List Int} {z n : Nat} {s0 s1 : Value} {l0 l1 : List Value} (h : SS w c z n X s0 s1 l0 l1) (hg : X.grownBy X4 s0.ownBlock) : X4.heap[w.heap.size + 1]? = some (.cells [s0, s1].toArray 37 (0, 0)) := (hg.block _ (by have := h.sz; omega) (fun e => by have := (h.o0.lt _ e.symm).1; omega)).trans h.b5
theorem SS.box1 {w X X4 : World} {c : Nat → List Int} {z n : Nat} {s0 s1 : Value} {l0 l1 : List Value} (h : SS w c z n X s0 s1 l0 l1) (hg : X.grownBy X4 s1.ownBlock) : X4.heap[w.heap.size + 1]? = some (.cells [s0, s1].toArray 37 (0, 0)) := (hg.block _ (by have := h.sz; omega) (fun e => by have := (h.o1.lt _ e.symm).1; omega)).trans h.b5
/-- What slots gives. -/
def SoQ (M : DM) (n : Nat) (w : World) (e : Ending) (w' : World) : Prop := ∃ a0 p0 a1 p1, e = .returned (.agg #[.slice a0 n p0, .slice a1 n p1]) ∧ RB (fun k => w.heap.size ≤ k) w' (.slice a0 n p0) ((List.range n).map fun i => secD M (1 + i)) ∧ RB (fun k => w.heap.size ≤ k) w' (.slice a1 n p1) ((List.range n).map fun i => secD M (1 + (n + i))) ∧ Below w.heap.size w w'
theorem slots_any {B : Nat} {T : Nat → Prop} {b : Nat} {M : DM} (ct n : Nat) (w : World) (h : DR B T w b M) (ho : M.off = false) (hc : M.cache.length ≤ 1000000) (hct : n = ct / 2) (hn : 1 ≤ n ∧ n ≤ 20) (hL : 1 + n + n ≤ M.secs.length) :
    Calls Tryd.prog 17 #[.pointer (some ⟨b, 0, none⟩), .int .i64 ct] w fun e w' => SoQ M n w e w' := by
  obtain ⟨z, hz⟩ : ∃ z, z = M.sz := ⟨_, rfl⟩
  obtain ⟨c, hcc⟩ : ∃ c : Nat → List Int, c = fun i => secD M (1 + i) := ⟨_, rfl⟩
  have CRD := hid_of (fun (X : World) (i : Nat) (hi : i < n + n) (hX : Below w.heap.size w X) => show Calls Tryd.prog 31 #[.pointer (some ⟨b, 0, none⟩), .int .i64 (1 + (i : Int))] X (fun e w' => ∃ x q, e = .returned (.tuple #[.slice x z q, .int .i64 0]) ∧ CR (fun k => X.heap.size ≤ k) w' (.slice x z q) (c i) ∧ Below X.heap.size X w') from by
    have h9 := (h.bel0 hX).read2 (1 + i) (by omega) ho hc
    rw [show (((1 + i : Nat) : Int)) = 1 + (i : Int) by omega] at h9
    rw [hz, hcc]
    exact h9)
  have q1 : (ct : Int).tdiv 2 = (n : Int) := by rw [Int.tdiv_eq_ediv_of_nonneg (by omega)]; omega
  have q2 : (ct : Int) / 2 = (n : Int) := by omega
  have ct9 : ct ≤ 41 := by omega
  have n20 : n ≤ 20 := hn.2
  have n0 : ¬ n = 0 := by omega
  have n0i : ¬ (n : Int) = 0 := by omega
  have HQ : Hid (SoQ M n w = SoQ M n w) := hid_of rfl
  have HZ := hid_of hz
  have HCC := hid_of hcc
  have wz : IntKind.i64.wrap 0 = 0 := IntWalk.i64_in _ (by omega)
  have wo : IntKind.i64.wrap 1 = 1 := IntWalk.i64_in _ (by omega)
  have HIB : Hid ((Tryd.prog.info? 37).map (·.size) = some (#[Value.slice none 0 0, Value.slice none 0 0]).size) := hid_of (by kernel_rfl)
  clear h ho hc hL hct hn hz hcc
  go_enter Tryd.func17, Tryd.ntmps17
  go_wp2
  go_loopw [7] (fun iv wr => ∃ (i : Nat) (s0 s1 : Value) (l0 l1 : List Value), iv = .int .i64 (i : Nat) ∧ Hid (i ≤ n + n) ∧ Hid (l0.length = min i n) ∧ Hid (l1.length = i - n) ∧ Hid (SS w c z n wr s0 s1 l0 l1)) (fun iv _ => 100 - (intOf iv).toNat)
  case atStart => exact ⟨0, _, _, [], [], rfl, hid_of (Nat.zero_le _), hid_of (by simp), hid_of (by simp), hid_of (SS.start w c z n)⟩
  case round =>
    obtain ⟨i, s0, s1, l0, l1, rfl, hi, hl0, hl1, hss⟩ := hrel
    have i9 : i ≤ 40 := by have := hi.out; omega
    have m2 : IntKind.i64.wrap (2 * (n : Int)) = 2 * (n : Int) := IntWalk.i64_in _ (by omega)
    by_cases hlt : i < n + n
    · have d1 : (i : Int) < 2 * (n : Int) := by omega
      have d1b : decide ((i : Int) < 2 * (n : Int)) = true := decide_eq_true d1
      have HLT := hid_of hlt
      have HSZ := hid_of hss.out.sz
      by_cases hin : i < n
      · have e1 : (i : Int).tdiv (n : Int) = 0 := by rw [Int.tdiv_eq_ediv_of_nonneg (by omega)]; exact Int.ediv_eq_zero_of_lt (by omega) (by omega)
        have e2 : (i : Int) / (n : Int) = 0 := Int.ediv_eq_zero_of_lt (by omega) (by omega)
        have HLI := hid_of (show l0.length = i from by rw [hl0.out]; omega)
        have HIN := hid_of hin
        clear hlt hin
        go_wp2_with (go_at_call 31; ((with_reducible refine (CRD.out wr i HLT.out hss.out.bel).mono ?_); (rintro e w2 ⟨xr, dr, rfl, q1, q2⟩)); have S2 := hid_of (hss.out.later q2); have B2 := hid_of q2; have R2 := hid_of q1; have t0 : w2.cell? ⟨w.heap.size + 1, 0, none⟩ = some s0 := cell_blk (cs := [s0, s1]) S2.out.b5 rfl; have t1 : w2.cell? ⟨w.heap.size + 1, 1, none⟩ = some s1 := cell_blk (cs := [s0, s1]) S2.out.b5 rfl; have t6 : (w2.alloc (.cells #[.slice xr z dr] 32)).drew.cell? ⟨w.heap.size + 1, 0, none⟩ = some s0 := cell_blk (cs := [s0, s1]) (S2.out.later (bel_alloc w2 (.cells #[.slice xr z dr] 32)).drew).b5 rfl; have t7 : (w2.alloc (.cells #[.slice xr z dr] 32)).drew.cell? ⟨w.heap.size + 1, 1, none⟩ = some s1 := cell_blk (cs := [s0, s1]) (S2.out.later (bel_alloc w2 (.cells #[.slice xr z dr] 32)).drew).b5 rfl; clear q1 q2)
        go_region_law (first
          | (refine step_app4 (by kernel_rfl) (.tmp 32) (.tmp 34) (by kernel_rfl) (v := s0) (l := l0) (by kernel_rfl) ((S2.out.later (bel_alloc w2 (.cells #[.slice xr z dr] 32)).drew).o0) (Nat.le_trans S2.out.sz (bel_alloc w2 (.cells #[.slice xr z dr] 32)).drew.size) (vx := .slice (some ⟨w2.heap.size, 0, none⟩) 1 1) (u := .slice xr z dr) (by kernel_rfl) (rd_new rfl rfl (by simp)) rfl (by have := HLI.out; omega) ?_; intro ao n4 cap w4 hn4 q1 q2 q3; have hb5 := (S2.out.later (bel_alloc w2 (.cells #[.slice xr z dr] 32)).drew).box0 q2; have t5 : w4.cell? ⟨w.heap.size + 1, 0, none⟩ = some s0 := cell_blk (cs := [s0, s1]) hb5 rfl; have f5 : w4.frozen? ⟨w.heap.size + 1, 0, none⟩ = false := fr_blk (cs := [s0, s1]) hb5 0; have S5 := hid_of (SS.step0 hss.out B2.out rfl (by rw [HLI.out]; exact R2.out) q1 q2 q3); clear hb5 q1 q2 q3 hn4))
        all_goals go_wp2
        all_goals go_roundw
        all_goals first
          | exact ⟨i + 1, .slice ao n4 cap, s1, l0 ++ [.slice xr z dr], l1, by go_num, HLT, hid_of (by rw [List.length_append, HLI.out]; have := HIN.out; simp; omega), hid_of (by rw [hl1.out]; have := HIN.out; omega), S5⟩
          | (have := HLT.out; simp [intOf]; omega)
      · have hge : n ≤ i := by omega
        have e1 : (i : Int).tdiv (n : Int) = 1 := by
          rw [Int.tdiv_eq_ediv_of_nonneg (by omega)]
          exact Int.le_antisymm (Int.lt_add_one_iff.1 (Int.ediv_lt_of_lt_mul (by omega) (by omega))) (Int.le_ediv_of_mul_le (by omega) (by omega))
        have e2 : (i : Int) / (n : Int) = 1 := by rw [Int.tdiv_eq_ediv_of_nonneg (by omega)] at e1; exact e1
        have HLI := hid_of (show l1.length = i - n from hl1.out)
        have HNI := hid_of (show n + l1.length = i from by rw [hl1.out]; omega)
        have HIN := hid_of hge
        clear hlt hin hge
        go_wp2_with (go_at_call 31; ((with_reducible refine (CRD.out wr i HLT.out hss.out.bel).mono ?_); (rintro e w2 ⟨xr, dr, rfl, q1, q2⟩)); have S2 := hid_of (hss.out.later q2); have B2 := hid_of q2; have R2 := hid_of q1; have t0 : w2.cell? ⟨w.heap.size + 1, 0, none⟩ = some s0 := cell_blk (cs := [s0, s1]) S2.out.b5 rfl; have t1 : w2.cell? ⟨w.heap.size + 1, 1, none⟩ = some s1 := cell_blk (cs := [s0, s1]) S2.out.b5 rfl; have t6 : (w2.alloc (.cells #[.slice xr z dr] 32)).drew.cell? ⟨w.heap.size + 1, 0, none⟩ = some s0 := cell_blk (cs := [s0, s1]) (S2.out.later (bel_alloc w2 (.cells #[.slice xr z dr] 32)).drew).b5 rfl; have t7 : (w2.alloc (.cells #[.slice xr z dr] 32)).drew.cell? ⟨w.heap.size + 1, 1, none⟩ = some s1 := cell_blk (cs := [s0, s1]) (S2.out.later (bel_alloc w2 (.cells #[.slice xr z dr] 32)).drew).b5 rfl; clear q1 q2)
        go_region_law (first
          | (refine step_app4 (by kernel_rfl) (.tmp 32) (.tmp 34) (by kernel_rfl) (v := s1) (l := l1) (by kernel_rfl) ((S2.out.later (bel_alloc w2 (.cells #[.slice xr z dr] 32)).drew).o1) (Nat.le_trans S2.out.sz (bel_alloc w2 (.cells #[.slice xr z dr] 32)).drew.size) (vx := .slice (some ⟨w2.heap.size, 0, none⟩) 1 1) (u := .slice xr z dr) (by kernel_rfl) (rd_new rfl rfl (by simp)) rfl (by have := HLI.out; omega) ?_; intro ao n4 cap w4 hn4 q1 q2 q3; have hb5 := (S2.out.later (bel_alloc w2 (.cells #[.slice xr z dr] 32)).drew).box1 q2; have t5 : w4.cell? ⟨w.heap.size + 1, 1, none⟩ = some s1 := cell_blk (cs := [s0, s1]) hb5 rfl; have f5 : w4.frozen? ⟨w.heap.size + 1, 1, none⟩ = false := fr_blk (cs := [s0, s1]) hb5 1; have S5 := hid_of (SS.step1 hss.out B2.out rfl (by rw [HNI.out]; exact R2.out) q1 q2 q3); clear hb5 q1 q2 q3 hn4))
        all_goals go_wp2
        all_goals go_roundw
        all_goals first
          | exact ⟨i + 1, s0, .slice ao n4 cap, l0, l1 ++ [.slice xr z dr], by go_num, HLT, hid_of (by rw [hl0.out]; have := HIN.out; omega), hid_of (by rw [List.length_append, HLI.out]; have := HIN.out; simp; omega), S5⟩
          | (have := HLT.out; simp [intOf]; omega)
    · have d1 : ¬ (i : Int) < 2 * (n : Int) := by omega
      have d1b : decide ((i : Int) < 2 * (n : Int)) = false := decide_eq_false d1
      have HF := hid_of (show l0.length = n ∧ l1.length = n from ⟨by rw [hl0.out]; omega, by rw [hl1.out]; have := hi.out; omega⟩)
      have sh0 := own_shape hss.out.o0
      have sh1 := own_shape hss.out.o1
      rw [HF.out.1] at sh0
      rw [HF.out.2] at sh1
      obtain ⟨a0, p0, rfl⟩ := sh0
      obtain ⟨a1, p1, rfl⟩ := sh1
      have t0 : wr.cell? ⟨w.heap.size + 1, 0, none⟩ = some (.slice a0 n p0) := cell_blk (cs := [.slice a0 n p0, .slice a1 n p1]) hss.out.b5 rfl
      have t1 : wr.cell? ⟨w.heap.size + 1, 1, none⟩ = some (.slice a1 n p1) := cell_blk (cs := [.slice a0 n p0, .slice a1 n p1]) hss.out.b5 rfl
      have f2 : wr.frozen? ⟨w.heap.size, 0, none⟩ = false := fr_blk (cs := [.slice none 0 0, .slice none 0 0]) hss.out.b4 0
      have f3 : (wr.setCell ⟨w.heap.size, 0, none⟩ (.slice a0 n p0)).frozen? ⟨w.heap.size, 1, none⟩ = false := fr_blk (cs := [.slice a0 n p0, .slice none 0 0]) (blk_setCell (k := 0) (cur := [.slice none 0 0, .slice none 0 0]) hss.out.b4) 1
      have t4 : (wr.setCell ⟨w.heap.size, 0, none⟩ (.slice a0 n p0)).cell? ⟨w.heap.size, 1, none⟩ = some (.slice none 0 0) := cell_blk (cs := [.slice a0 n p0, .slice none 0 0]) (blk_setCell (k := 0) (cur := [.slice none 0 0, .slice none 0 0]) hss.out.b4) rfl
      have hb4 : ((wr.setCell ⟨w.heap.size, 0, none⟩ (.slice a0 n p0)).setCell ⟨w.heap.size, 1, none⟩ (.slice a1 n p1)).heap[w.heap.size]? = some (.cells [.slice a0 n p0, .slice a1 n p1].toArray 37 (0, 0)) := blk_setCell (k := 1) (cur := [.slice a0 n p0, .slice none 0 0]) (blk_setCell (k := 0) (cur := [.slice none 0 0, .slice none 0 0]) hss.out.b4)
      have HX := hid_of hb4
      have ks : Keeps (Sb w (.slice a0 n p0) (.slice a1 n p1)) wr ((wr.setCell ⟨w.heap.size, 0, none⟩ (.slice a0 n p0)).setCell ⟨w.heap.size, 1, none⟩ (.slice a1 n p1)) := (keeps_set _ _ 0 _ fun hk => by have := hk.1; omega).trans (keeps_set _ _ 1 _ fun hk => by have := hk.1; omega)
      have HF2 := hid_of (show SoQ M n w (.returned (.agg #[.slice a0 n p0, .slice a1 n p1])) ((wr.setCell ⟨w.heap.size, 0, none⟩ (.slice a0 n p0)).setCell ⟨w.heap.size, 1, none⟩ (.slice a1 n p1)) from by
        have hbl : Below w.heap.size w ((wr.setCell ⟨w.heap.size, 0, none⟩ (.slice a0 n p0)).setCell ⟨w.heap.size, 1, none⟩ (.slice a1 n p1)) := (hss.out.bel.setCell (p := ⟨w.heap.size, 0, none⟩) (Nat.le_refl _) _).setCell (p := ⟨w.heap.size, 1, none⟩) (Nat.le_refl _) _
        have kb : ∀ k, w.heap.size + 2 ≤ k ∧ k < wr.heap.size → ((wr.setCell ⟨w.heap.size, 0, none⟩ (.slice a0 n p0)).setCell ⟨w.heap.size, 1, none⟩ (.slice a1 n p1)).heap[k]? = wr.heap[k]? := fun k hk => (Below.heap_setCell _ _ _ _ (fun e => by have e2 : k = w.heap.size := e; omega)).trans (Below.heap_setCell _ _ _ _ (fun e => by have e2 : k = w.heap.size := e; omega))
        refine ⟨a0, p0, a1, p1, rfl, ?_, ?_, hbl⟩
        · have h9 := ss_rb hss.out.o0 HF.out.1 hss.out.sz (by omega) (fun k hk => kb k (hss.out.o0.lt k hk)) ks (fun k hk => by have := hk.1; omega) (fun j u e => hss.out.e0 j u e)
          rw [HCC.out] at h9
          exact h9
        · have h9 := ss_rb (c := fun i => c (n + i)) hss.out.o1 HF.out.2 hss.out.sz (by omega) (fun k hk => kb k (hss.out.o1.lt k hk)) ks (fun k hk => by have := hk.1; omega) (fun j u e => hss.out.e1 j u e)
          rw [HCC.out] at h9
          exact h9)
      clear hb4 ks
      have t2 : wr.cell? ⟨w.heap.size, 0, none⟩ = some (.slice none 0 0) := cell_blk (cs := [.slice none 0 0, .slice none 0 0]) hss.out.b4 rfl
      have t3 : wr.cell? ⟨w.heap.size, 1, none⟩ = some (.slice none 0 0) := cell_blk (cs := [.slice none 0 0, .slice none 0 0]) hss.out.b4 rfl
      clear hlt
      go_wp2
      refine bodyPost_ret (results_cell_row rfl _ _ w.heap.size 37 #[.slice a0 n p0, .slice a1 n p1] (0, 0) _ rfl (HX.out) Tryd.underlying37 rfl HIB.out) rfl ?_
      exact HF2.out
end Go.Proofs.YtlffiebnieakjaaDoor

/- The law Finds, whatever the example gives. Bounds on sizes alone. -/
namespace Go.Proofs.YtlffiebnieakjaaDoor
open Go.RowKit
set_option maxRecDepth 100000
set_option maxHeartbeats 6400000

/-- The newest of the law's slots is the disk's newest. -/
theorem slots_nw (M : DM) (n : Nat) (hn : 1 ≤ n) : newestF (slotF Sh.digest (secD M (1 + 0)) (areaF (fun i => secD M (1 + (i + 1))) (n - 1))) (slotF Sh.digest (secD M (1 + (n + 0))) (areaF (fun i => secD M (1 + (n + (i + 1)))) (n - 1))) = nwD M 1 n := by
  unfold nwD slD
  rw [areaF_congr (c := fun i => secD M (1 + (i + 1))) (d := bodC M 1) (n - 1) (fun i _ => by show (flat M).secs.getD (1 + (i + 1)) [] = (flat M).secs.getD (1 + 1 + i) []; rw [show 1 + (i + 1) = 1 + 1 + i by omega]), areaF_congr (c := fun i => secD M (1 + (n + (i + 1)))) (d := bodC M (1 + n)) (n - 1) (fun i _ => by show (flat M).secs.getD (1 + (n + (i + 1))) [] = (flat M).secs.getD (1 + n + 1 + i) []; rw [show 1 + (n + (i + 1)) = 1 + n + 1 + i by omega])]
  rfl
theorem finds_law (AW : OpAW) (s : Nat) (hs : s ≤ 255) (a0 : Option Addr) (n0 c0 : Nat) (R : List (List Int)) (w : World) (hG : Sh.Glob w) (rR : RB (fun k => k < w.heap.size) w (.slice a0 n0 c0) R) (bR : ∀ l ∈ R, Byt l) :
    Calls Tryd.prog 3 #[.int .u8 s, .slice a0 n0 c0] w (BoP true w) := by
  obtain ⟨L, hL⟩ : ∃ L, L = 8 + s % 8 := ⟨_, rfl⟩
  obtain ⟨z, hz⟩ : ∃ z, z = 64 + s / 8 := ⟨_, rfl⟩
  obtain ⟨ct, hct⟩ : ∃ ct, ct = L - 1 := ⟨_, rfl⟩
  obtain ⟨n, hn⟩ : ∃ n, n = ct / 2 := ⟨_, rfl⟩
  have hL2 : 8 ≤ L ∧ L ≤ 15 := by omega
  have hz2 : 64 ≤ z ∧ z ≤ 95 := by omega
  have hn2 : 3 ≤ n ∧ n ≤ 7 ∧ 1 + n + n ≤ L := by omega
  obtain ⟨Rm, hRm⟩ : ∃ Rm, Rm = (n - 1) * z := ⟨_, rfl⟩
  have hR6 : Rm ≤ 6 * 95 := by rw [hRm]; exact Nat.mul_le_mul (by omega) hz2.2
  obtain ⟨B, hB⟩ : ∃ B, B = w.heap.size := ⟨_, rfl⟩
  have hB2 : 2 ≤ B := by rw [hB]; exact hG.two
  obtain ⟨T0, hT0⟩ : ∃ T : Nat → Prop, T = fun k => k < B := ⟨_, rfl⟩
  have HTR := hid_of (fun (X : World) (h : w.heap.size ≤ X.heap.size) => show TR B T0 X from by rw [hT0]; have h9 := tr_new (w := w) (w' := X) h; rwa [← hB] at h9)
  have HG := hid_of (fun (X : World) (h : Below B w X) => hG.bel h hB2)
  have HBL := hid_of (show B ≤ w.heap.size by omega)
  have n0l := rR.len
  have CAW := hid_of (show Calls Tryd.prog 10 #[] w (fun e w' => e = .returned (.bool true) ∧ Below B w w') from by rw [hB]; exact AW w hG)
  rw [show BoP true w = fun e w' => e = .returned (.bool true) ∧ Below B w w' from by rw [hB]]
  have n09 : n0 ≤ 9223372036854775807 := by omega
  by_cases h20 : 20 < n0
  · have CMK := hid_of (fun (X : World) => make_over s hs a0 n0 c0 X h20 n09)
    have d2 : decide ((20 : Int) < (n0 : Int)) = true := decide_eq_true (by omega)
    have d2b : (20 : Int) < (n0 : Int) := by omega
    clear rR bR AW hG hB hT0 hL hz hct hn hRm h20 n0l
    go_enter Tryd.func3, Tryd.ntmps3
    go_wp2_with (first
      | (go_at_call 10; ((with_reducible refine (CAW.out).mono ?_); (rintro e w1 ⟨rfl, q1⟩)); have B1 := hid_of q1; clear q1)
      | (go_at_call 11; ((with_reducible refine (CMK.out w1).mono ?_); (rintro e w2 ⟨rfl, q1⟩)); have B2 := hid_of (B1.out.trans (q1.mono (Nat.le_trans HBL.out B1.out.size))); clear q1))
    go_ret
    exact ⟨rfl, B2.out⟩
  have HRB := hid_of (fun (X : World) (hX : Below B w X) => show RB (fun k => k < B) X (.slice a0 n0 c0) R from by
    rw [hB]
    exact rR.keep (w' := X) ⟨hX.size, fun k hk _ => hX.block k (by rw [hB]; exact hk)⟩)
  have CMK := hid_of (fun (X : World) (h : Below B w X) => show Calls Tryd.prog 11 #[.int .u8 s, .slice a0 n0 c0] X (fun e w' => ∃ b, e = .returned (.pointer (some ⟨b, 0, none⟩)) ∧ DR B T0 w' b (mkM L z R) ∧ Below B X w') from by
    rw [hL, hz]
    exact make_any s hs a0 n0 c0 R X (HTR.out X h.size) (HRB.out X h) (by omega))
  have d2 : decide ((20 : Int) < (n0 : Int)) = false := decide_eq_false (by omega)
  have d2b : ¬ (20 : Int) < (n0 : Int) := by omega
  have HSZ := hid_of (show 64 ≤ z ∧ z ≤ 95 ∧ (n - 1) * z ≤ 30000 ∧ 3 ≤ n ∧ n ≤ 7 ∧ 1 + n + n ≤ L ∧ 1 + ct ≤ L ∧ 4 ≤ ct ∧ n = ct / 2 ∧ (n - 1) * z = Rm ∧ Rm ≤ 6 * 95 ∧ 2 ≤ B by omega)
  have HMR := hid_of (show RngM (mkM L z R) from mkM_rng L z bR)
  -- contracts on a disk of the law's size
  have CSC := hid_of (fun (T : Nat → Prop) (X : World) (b : Nat) (M : DM) (hM : M.secs.length = L) (d : DR B T X b M) => show Calls Tryd.prog 12 #[.pointer (some ⟨b, 0, none⟩)] X (fun e w' => e = .returned (.int .i64 (L : Nat)) ∧ Below X.heap.size X w') from by rw [← hM]; exact d.sectors)
  have COP := hid_of (fun (T : Nat → Prop) (X : World) (b i g : Nat) (c : List Int) (M : DM) (h : Below B w X) (t : TR B T X) (d : DR B T X b M) (hl : M.secs.length = L) (hzz : M.sz = z) (hc : M.cache = []) (ho : M.off = false) (hr : RngM M) (hnw : nwD M 1 n = (c, g, i)) => show Calls Tryd.prog 14 #[.pointer (some ⟨b, 0, none⟩), .int .i64 1, .int .i64 (ct : Nat)] X (fun e w' => ∃ cb, e = .returned (.tuple #[.pointer (some ⟨cb, 0, none⟩), .int .i64 0]) ∧ LV B T w' cb b M 1 n i c g ∧ Below X.heap.size X w') from by
    obtain ⟨z1, z2, z3, z4, z5, z6, z7, z8, z9, zA, zB, zC⟩ := HSZ.out
    have h9 := lv_open (f := 1) (ct := ct) d t ⟨by rw [hl]; omega, by omega⟩ (by rw [hzz]; omega) (by rw [← z9, hzz]; exact z3) ho hc hr (HG.out X h)
    rw [← z9, hnw] at h9
    exact h9)
  have CLD := hid_of (fun (T : Nat → Prop) (X : World) (cb b i g : Nat) (M : DM) (c : List Int) (h : LV B T X cb b M 1 n i c g) => show Calls Tryd.prog 15 #[.pointer (some ⟨cb, 0, none⟩)] X (fun e w' => ∃ x k m, e = .returned (.tuple #[.slice x k m, .int .i64 (g : Nat)]) ∧ CR (Tn T X w') w' (.slice x k m) c ∧ Below X.heap.size X w') from h.st.load.mono fun e w' ⟨x, k, m, q1, q2, q3⟩ => ⟨x, k, m, q1, q2.lt.mono fun k hk => Or.inr hk, q3⟩)
  obtain ⟨M, hM⟩ : ∃ M, M = mkM L z R := ⟨_, rfl⟩
  have eL : M.secs.length = L := by rw [hM]; exact mkM_len L z R
  have eZ : M.sz = z := by rw [hM]; rfl
  have eC : M.cache = [] := by rw [hM]; rfl
  have eO : M.off = false := by rw [hM]; exact (mkM_nf L z R).1
  have eR : RngM M := by rw [hM]; exact HMR.out
  rw [← hM] at CMK
  have HMM := hid_of (And.intro eL (And.intro eZ (And.intro eC (And.intro eO eR))))
  obtain ⟨N, hN⟩ : ∃ N, N = nwD M 1 n := ⟨_, rfl⟩
  obtain ⟨cN, gN, iN⟩ := N
  have HN := hid_of hN.symm
  obtain ⟨SA, hSA⟩ : ∃ S, S = strOfNums (allD M) := ⟨_, rfl⟩
  obtain ⟨SB, hSB⟩ : ∃ S, S = strOfNums cN := ⟨_, rfl⟩
  have HSB := hid_of hSB
  have CAL := hid_of (fun (T : Nat → Prop) (X : World) (b : Nat) (d : DR B T X b M) => show Calls Tryd.prog 13 #[.pointer (some ⟨b, 0, none⟩)] X (fun e w' => e = .returned (.string SA) ∧ Below X.heap.size X w') from by
    rw [hSA]
    exact all_any X d eO (by rw [eC]; exact Nat.zero_le _) (by rw [eL]; omega))
  have CSO := hid_of (fun (T : Nat → Prop) (X : World) (b : Nat) (d : DR B T X b M) => show Calls Tryd.prog 17 #[.pointer (some ⟨b, 0, none⟩), .int .i64 (ct : Nat)] X (fun e w' => SoQ M n X e w') from slots_any ct n X d eO (by rw [eC]; exact Nat.zero_le _) hn ⟨by omega, by omega⟩ (by rw [eL]; omega))
  have CNE := hid_of (fun (X0 X : World) (a0 : Option Addr) (p0 : Nat) (a1 : Option Addr) (p1 : Nat) (ok : M.Ok) (r0 : RB (fun k => X0.heap.size ≤ k) X (.slice a0 n p0) ((List.range n).map fun i => secD M (1 + i))) (r1 : RB (fun k => X0.heap.size ≤ k) X (.slice a1 n p1) ((List.range n).map fun i => secD M (1 + (n + i)))) => show Calls Tryd.prog 16 #[.agg #[.slice a0 n p0, .slice a1 n p1]] X (fun e w' => ∃ x m c, e = .returned (.tuple #[.slice x m c, .int .i64 (gN : Nat), .int .i64 (iN : Nat)]) ∧ Rd w' (.slice x m c) (by8 cN) ∧ Below X.heap.size X w') from by
    have h9 := rnewest_any a0 n p0 (fun i => secD M (1 + i)) a1 n p1 (fun i => secD M (1 + (n + i))) z X r0 (fun i hi => by rw [← eZ]; exact flat_con ok (by omega)) (fun i hi => rng_flat eR _) r1 (fun i hi => by rw [← eZ]; exact flat_con ok (by omega)) (fun i hi => rng_flat eR _) ⟨by omega, by omega⟩ ⟨by omega, by omega⟩ ⟨by omega, by omega⟩
    rw [slots_nw M n (by omega), ← hN] at h9
    exact h9)
  have CRM := hid_of (fun (T : Nat → Prop) (X : World) (cb b i g : Nat) (c : List Int) (h : LV B T X cb b M 1 n i c g) => show Calls Tryd.prog 18 #[.pointer (some ⟨cb, 0, none⟩)] X (fun e w' => e = .returned (.int .i64 (Rm : Nat)) ∧ Below X.heap.size X w') from by have h9 := h.st.room; rw [eZ, ← hRm] at h9; exact h9)
  have CDN := hid_of (fun (T : Nat → Prop) (X : World) (cb b i g : Nat) (c : List Int) (h : LV B T X cb b M 1 n i c g) => show Calls Tryd.prog 21 #[.pointer (some ⟨cb, 0, none⟩)] X (fun e w' => e = .returned (.bool false) ∧ Below X.heap.size X w') from h.st.down)
  have CSI := hid_of (fun (T : Nat → Prop) (X : World) (b : Nat) (d : DR B T X b M) => show Calls Tryd.prog 19 #[.pointer (some ⟨b, 0, none⟩)] X (fun e w' => e = .returned (.int .i64 (z : Nat)) ∧ Below X.heap.size X w') from by have h9 := d.size; rw [eZ] at h9; exact h9)
  have CCA := hid_of (fun (T : Nat → Prop) (X : World) (b : Nat) (d : DR B T X b M) => show Calls Tryd.prog 20 #[.pointer (some ⟨b, 0, none⟩)] X (fun e w' => e = .returned (.int .i64 0) ∧ Below X.heap.size X w') from by have h9 := d.cached; rw [eC] at h9; exact h9)
  have ctm : IntKind.i64.wrap ((L : Int) - 1) = (ct : Int) := by rw [show (L : Int) - 1 = (ct : Int) by omega]; exact IntWalk.i64_in _ (by omega)
  have ctb : (L : Int) - 1 = (ct : Int) := by omega
  have ct14 : ct ≤ 14 := by omega
  have n9 : n ≤ 7 := by omega
  have z9 : z ≤ 95 := by omega
  have Rm9 : Rm ≤ 570 := by omega
  have t1 : (ct : Int).tdiv 2 = (n : Int) := by rw [Int.tdiv_eq_ediv_of_nonneg (by omega)]; omega
  have t2 : (ct : Int) / 2 = (n : Int) := by omega
  obtain ⟨n1, hn1⟩ : ∃ n1, n1 = n - 1 := ⟨_, rfl⟩
  have t3 : IntKind.i64.wrap ((n : Int) - 1) = (n1 : Int) := by rw [show (n : Int) - 1 = (n1 : Int) by omega]; exact IntWalk.i64_in _ (by omega)
  have t3b : (n : Int) - 1 = (n1 : Int) := by omega
  have t4b : (n1 : Int) * (z : Int) = (Rm : Int) := by rw [hRm, hn1]; exact (Int.natCast_mul _ _).symm
  have t4 : IntKind.i64.wrap ((n1 : Int) * (z : Int)) = (Rm : Int) := by rw [t4b]; exact IntWalk.i64_in _ (by omega)
  have n19 : n1 ≤ 7 := by omega
  have ssa : (SA.toList == SA.toList) = true := beq_self_eq_true _
  have ssb : (SB.toList == SB.toList) = true := beq_self_eq_true _
  clear rR bR AW hG hB hT0 hL hz hct hn hRm h20 n0l hN hz2 hn2 hR6 hB2 hs hM eL eZ eC eO eR hSA hSB hn1
  go_enter Tryd.func3, Tryd.ntmps3
  go_wp2_with (first
    | (go_at_call 10; ((with_reducible refine (CAW.out).mono ?_); (rintro e w1 ⟨rfl, q1⟩)); have B1 := hid_of q1; clear q1)
    | (go_at_call 11; ((with_reducible refine (CMK.out w1 B1.out).mono ?_); (rintro e w2 ⟨b, rfl, q1, q2⟩)); have D2 := hid_of q1; have B2 := hid_of (B1.out.trans q2); clear q1 q2)
    | (go_at_call 12; ((with_reducible refine (CSC.out T0 w2 b M HMM.out.1 D2.out).mono ?_); (rintro e w3 ⟨rfl, q2⟩)); have D3 := hid_of (D2.out.bel0 q2); have B3 := hid_of (B2.out.trans (q2.mono (Nat.le_trans HBL.out B2.out.size))); clear q2)
    | (go_at_call 13; ((with_reducible refine (CAL.out T0 w3 b D3.out).mono ?_); (rintro e w4 ⟨rfl, q2⟩)); have D4 := hid_of (D3.out.bel0 q2); have B4 := hid_of (B3.out.trans (q2.mono (Nat.le_trans HBL.out B3.out.size))); clear q2)
    | (go_at_call 14; ((with_reducible refine (COP.out T0 w4 b iN gN cN M B4.out (HTR.out w4 B4.out.size) D4.out HMM.out.1 HMM.out.2.1 HMM.out.2.2.1 HMM.out.2.2.2.1 HMM.out.2.2.2.2 HN.out).mono ?_); (rintro e w5 ⟨cb, rfl, q1, q2⟩)); have L5 := hid_of q1; have B5 := hid_of (B4.out.trans (q2.mono (Nat.le_trans HBL.out B4.out.size))); clear q1 q2)
    | (go_at_call 15; ((with_reducible refine (CLD.out T0 w5 cb b iN gN M cN L5.out).mono ?_); (rintro e w6 ⟨xa, xn, xc, rfl, q1, q2⟩)); have R6 := hid_of q1.1; have L6 := hid_of (L5.out.bel0 q2); have B6 := hid_of (B5.out.trans (q2.mono (Nat.le_trans HBL.out B5.out.size))); clear q1 q2)
    | (go_at_call 17; ((with_reducible refine (CSO.out T0 w6 b L6.out.st.disk).mono ?_); (rintro e w7 ⟨x0, p0, x1, p1, rfl, q0, q1, q2⟩)); have Q0 := hid_of q0; have Q1 := hid_of q1; have R7 := hid_of (R6.out.at q2); have L7 := hid_of (L6.out.bel0 q2); have B7 := hid_of (B6.out.trans (q2.mono (Nat.le_trans HBL.out B6.out.size))); clear q0 q1 q2)
    | (go_at_call 16; ((with_reducible refine (CNE.out w6 w7 x0 p0 x1 p1 L7.out.ok Q0.out Q1.out).mono ?_); (rintro e w8 ⟨xx, xm, xk, rfl, q1, q2⟩)); have R8 := hid_of (R7.out.at q2); have L8 := hid_of (L7.out.bel0 q2); have B8 := hid_of (B7.out.trans (q2.mono (Nat.le_trans HBL.out B7.out.size))); have cva := conv_lies (lies_of R8.out); rw [← HSB.out] at cva; have cvb := conv_lies (lies_of q1); rw [← HSB.out] at cvb; clear q1 q2)
    | (go_at_call 18; ((with_reducible refine (CRM.out T0 w8 cb b iN gN cN L8.out).mono ?_); (rintro e w9 ⟨rfl, q2⟩)); have L9 := hid_of (L8.out.bel0 q2); have B9 := hid_of (B8.out.trans (q2.mono (Nat.le_trans HBL.out B8.out.size))); clear q2)
    | (go_at_call 19; ((with_reducible refine (CSI.out T0 w9 b L9.out.st.disk).mono ?_); (rintro e wA ⟨rfl, q2⟩)); have LA := hid_of (L9.out.bel0 q2); have BA := hid_of (B9.out.trans (q2.mono (Nat.le_trans HBL.out B9.out.size))); clear q2)
    | (go_at_call 13; ((with_reducible refine (CAL.out T0 wA b LA.out.st.disk).mono ?_); (rintro e wB ⟨rfl, q2⟩)); have LB := hid_of (LA.out.bel0 q2); have BB := hid_of (BA.out.trans (q2.mono (Nat.le_trans HBL.out BA.out.size))); clear q2)
    | (go_at_call 20; ((with_reducible refine (CCA.out T0 wB b LB.out.st.disk).mono ?_); (rintro e wC ⟨rfl, q2⟩)); have LC := hid_of (LB.out.bel0 q2); have BC := hid_of (BB.out.trans (q2.mono (Nat.le_trans HBL.out BB.out.size))); clear q2)
    | (go_at_call 21; ((with_reducible refine (CDN.out T0 wC cb b iN gN cN LC.out).mono ?_); (rintro e wD ⟨rfl, q2⟩)); have BD := hid_of (BC.out.trans (q2.mono (Nat.le_trans HBL.out BC.out.size))); clear q2))
  go_ret
  exact ⟨rfl, BD.out⟩
theorem finds_all (AW : OpAW) (s : Int) (a0 : Option Addr) (n0 c0 : Nat) (R : List (List Int)) (w : World) (hG : Sh.Glob w) (ws : (Lit.int .u8 s).wf = true) (h1 : RB (fun k => k < w.heap.size) w (.slice a0 n0 c0) R ∧ ∀ l ∈ R, Byt l) :
    Calls Tryd.prog 3 #[.int .u8 s, .slice a0 n0 c0] w (BoP true w) := by
  obtain ⟨s, rfl, hs⟩ := u8_num ws
  exact finds_law AW s hs a0 n0 c0 R w hG h1.1 h1.2
end Go.Proofs.YtlffiebnieakjaaDoor
