/- The law of blanks. Bounds on sizes alone. -/
import Derived.Test.YtkpblmmgaglhoaaNamSpm
import Derived.Test.YtkpblmmgaglhoaaNamLTxt
namespace Go.Proofs.Ytkpblmmgaglhoaa
open Go.RowKit

/-- The blanks that the law takes at a place. -/
def gp (zs : List Int) (len : Nat) (i : Nat) : Nat := if i < len then (zs.getD i 0).toNat % 4 else 0
theorem gp_lt (zs : List Int) (len i : Nat) : gp zs len i < 4 := by unfold gp; split <;> omega
theorem bl_lit (k : Nat) (h : k < 4) : (⟨#[32, 32, 32]⟩ : ByteArray).extract 0 k = ba (bl k) := by
  rcases (by omega : k = 0 ∨ k = 1 ∨ k = 2 ∨ k = 3) with rfl | rfl | rfl | rfl <;> rfl
set_option maxRecDepth 100000 in
theorem gap_any (a : Option Addr) (len cap : Nat) (zs : List Int) (i : Nat) (w : World) (R : IsRow .u8 w a len cap zs) (hi : i ≤ 1000) (hl : len ≤ 100) :
    Calls Try.prog 36 #[.slice a len cap, .int .i64 i] w fun e w' => e = .returned (.string (ba (bl (gp zs len i)))) ∧ w = w' := by
  by_cases h : i < len
  · rcases R with ⟨rfl, rfl, rfl, rfl⟩ | ⟨x, rfl, h1, h2, h3, h4, h5⟩
    · omega
    · have hc := h4 i (by omega)
      obtain ⟨z, hz⟩ : ∃ z, z = zs.getD i 0 := ⟨_, rfl⟩
      have hzm : z ∈ zs := by rw [hz, List.getD_eq_getElem?_getD, List.getElem?_eq_getElem (by omega)]; exact List.getElem_mem _
      have hzw := h5 z hzm
      have hz0 : 0 ≤ z ∧ z ≤ 255 := bounds_u8 hzw
      rw [← hz] at hc
      obtain ⟨k, hk⟩ : ∃ k : Nat, k = z.toNat % 4 := ⟨_, rfl⟩
      have hgp : gp zs len i = k := by unfold gp; rw [if_pos h, ← hz, hk]
      have HB : Hid ((⟨#[32, 32, 32]⟩ : ByteArray).extract 0 k = ba (bl (gp zs len i))) := hid_of (by rw [hgp]; exact bl_lit k (by omega))
      have hc0 := h4 0 (by omega)
      rw [show x.add 0 = x by rfl] at hc0
      obtain ⟨g, o, rfl⟩ : ∃ g o, x = ⟨g, o, none⟩ := ⟨_, _, spot_none hc0⟩
      rw [Addr.add_mid] at hc
      obtain ⟨zn, rfl⟩ := Int.eq_ofNat_of_zero_le hz0.1
      have d0 : decide ((len : Int) ≤ (i : Int)) = false := by simp; omega
      have d1 : decide (len ≤ i) = false := by simp; omega
      have e1 : IntKind.u8.wrap ((zn : Int) % 4) = (k : Int) := by rw [IntKind.wrap_u8, hk]; simp; omega
      have e2 : IntKind.u8.wrap ((zn : Int).tmod 4) = (k : Int) := by rw [IntKind.wrap_u8, hk, Int.tmod_eq_emod_of_nonneg (by omega)]; simp; omega
      have e3 : (zn : Int) % 4 = (k : Int) := by rw [hk]; simp
      have e4 : IntKind.i64.wrap (k : Int) = k := IntWalk.i64_in _ (by omega)
      have k3 : k ≤ 3 := by omega
      have k3' : (k : Int) ≤ 3 := by omega
      have k0' : (0 : Int) ≤ (k : Int) := by omega
      have b1 : (i : Int) < (len : Int) := by omega
      have b0 : (0 : Int) ≤ (i : Int) := by omega
      clear hk hz hzm hzw hgp h h4 h5 hc0
      go_enter Try.func36, Try.ntmps36
      go_wp2
      go_ret
      exact ⟨by rw [← HB.out] <;> rfl, rfl⟩
  · have d0 : decide ((len : Int) ≤ (i : Int)) = true := by simp; omega
    have d1 : decide (len ≤ i) = true := by simp; omega
    have HB : Hid (ba (bl (gp zs len i)) = ⟨#[]⟩) := hid_of (by unfold gp; rw [if_neg h]; rfl)
    go_enter Try.func36, Try.ntmps36
    go_wp2
    go_ret
    exact ⟨by rw [HB.out] <;> rfl, rfl⟩

/-- The words with their blanks, from word k on. -/
def mkI (g : Nat → Nat) : Nat → List Str → List Itm
  | _, [] => []
  | k, x :: l => (x, g (2 * k + 3), g (2 * k + 4)) :: mkI g (k + 1) l
theorem mkI_ok {g : Nat → Nat} : ∀ {l : List Str} {k : Nat}, (∀ x ∈ l, nameOk x = true) → ∀ i ∈ mkI g k l, nameOk i.1 = true := by
  intro l; induction l with
  | nil => intro k _ i hi; simp [mkI] at hi
  | cons x l ih =>
    intro k h i hi
    rcases List.mem_cons.1 hi with rfl | hi
    · exact h x (by simp)
    · exact ih (fun y hy => h y (by simp [hy])) i hi
/-- What is still to be written behind the first k words. -/
def restI (g : Nat → Nat) (l : List Str) (tl : Str) (k : Nat) : Str := match l.drop k with
  | [] => 125 :: tl
  | x :: r => (if k = 0 then [] else [44]) ++ rnd (mkI g k (x :: r)) tl
theorem rest_zero (g : Nat → Nat) (l : List Str) (tl : Str) : restI g l tl 0 = rnd (mkI g 0 l) tl := by
  unfold restI; cases l <;> simp [mkI, rnd]
theorem rest_end (g : Nat → Nat) (l : List Str) (tl : Str) : restI g l tl l.length = 125 :: tl := by unfold restI; rw [List.drop_length]
theorem rest_step {g : Nat → Nat} {l : List Str} {tl : Str} {k : Nat} (h : k < l.length) : restI g l tl k = (if k = 0 then [] else [44]) ++ (bl (g (2 * k + 3)) ++ l[k] ++ bl (g (2 * k + 4))) ++ restI g l tl (k + 1) := by
  unfold restI
  rw [List.drop_eq_getElem_cons h]
  cases hd : l.drop (k + 1) with
  | nil => simp only [mkI, rnd]; simp
  | cons y r => simp only [mkI, rnd]; simp
theorem spR_step {g : Nat → Nat} {l : List Str} {k pos : Nat} {acc : List Str} (h : k < l.length) : spR pos acc (mkI g k (l.drop k)) = if l[k] ∈ acc then bad (pos + g (2 * k + 3)) 3 else spR (pos + g (2 * k + 3) + l[k].length + g (2 * k + 4) + 1) (acc ++ [l[k]]) (mkI g (k + 1) (l.drop (k + 1))) := by
  rw [List.drop_eq_getElem_cons h, mkI, spR]
theorem spR_end {g : Nat → Nat} {l : List Str} {pos : Nat} {acc : List Str} : spR pos acc (mkI g l.length (l.drop l.length)) = ⟨setOf acc, 0, 0⟩ := by rw [List.drop_length, mkI, spR]

theorem isrow_at {k : IntKind} {w w' : World} {a : Option Addr} {len cap : Nat} {zs : List Int} (h : IsRow k w a len cap zs) (hb : Below w.heap.size w w') : IsRow k w' a len cap zs := by
  rcases h with h | ⟨x, h1, h2, h3, h4, h5, h6⟩
  · exact .inl h
  · refine .inr ⟨x, h1, h2, h3, h4, fun i hi => ?_, h6⟩
    have hc := h5 i hi
    exact (hb.cell (p := x.add i) (World.block_lt_of_cell? w _ hc)).trans hc
theorem rd_take {w : World} {g o n cap k : Nat} {l : List Str} (R : Rd w (.slice (some ⟨g, o, none⟩) n cap) (ss l)) (hk : k ≤ l.length) : Rd w (.slice (some ⟨g, o, none⟩) k cap) (ss (l.take k)) := by
  obtain ⟨hn, h1, h2, h3⟩ := rds_open R
  refine ⟨some ⟨g, o, none⟩, cap, by rw [ss_length, List.length_take, Nat.min_eq_left hk], by rw [ss_length, List.length_take, Nat.min_eq_left hk]; omega, h2, fun h0 => ?_⟩
  rw [ss_length, List.length_take, Nat.min_eq_left hk] at h0
  obtain ⟨g2, o2, e, hg, hc⟩ := h3.resolve_left (fun e => by rw [e] at hk; simp at hk; omega)
  refine ⟨g2, o2, e, hg, fun j u hu => ?_⟩
  have hj : j < k := by
    have := (List.getElem?_eq_some_iff.1 hu).1
    rw [ss_length, List.length_take, Nat.min_eq_left hk] at this; exact this
  have hjl : j < l.length := by omega
  rw [hc j _ (List.getElem?_eq_getElem hjl), ← hu]
  simp [ss, List.getElem?_take, hj, hjl]
/-- Where the law's loop stands behind k words. -/
def Inv (G : Nat → Nat) (l : List Str) (tl TOT : Str) (RES : Got) (k : Nat) (sv : ByteArray) (tw : Int) : Prop :=
  ∃ pre : Str, sv = ba pre ∧ TOT = pre ++ restI G l tl k ∧ ((tw = -1 ∧ spR (pre.length + (if k = 0 then 0 else 1)) (l.take k) (mkI G k (l.drop k)) = RES) ∨ (0 ≤ tw ∧ RES = bad tw.toNat 3))
theorem inv_step {G : Nat → Nat} {l : List Str} {tl TOT : Str} {RES : Got} {k : Nat} {sv s2 s3 bb : ByteArray} {tw tw2 : Int} (h : Inv G l tl TOT RES k sv tw) (hk : k < l.length) (hb : bb = ba l[k])
    (e2 : s2 = (if k = 0 then sv else sv ++ ⟨#[44]⟩) ++ ba (bl (G (2 * k + 3)))) (e3 : s3 = s2 ++ (bb ++ ba (bl (G (2 * k + 4))))) (ht : tw2 = if tw < 0 ∧ l[k] ∈ l.take k then (s2.size : Int) else tw) : Inv G l tl TOT RES (k + 1) s3 tw2 := by
  obtain ⟨pre, rfl, hT, hc⟩ := h
  have es2 : s2 = ba (pre ++ (if k = 0 then [] else [44]) ++ bl (G (2 * k + 3))) := by
    rw [e2]
    by_cases h0 : k = 0
    · rw [if_pos h0, if_pos h0]; apply ByteArray.ext; simp [ba]
    · rw [if_neg h0, if_neg h0]; apply ByteArray.ext; simp [ba]
  refine ⟨pre ++ (if k = 0 then [] else [44]) ++ bl (G (2 * k + 3)) ++ l[k] ++ bl (G (2 * k + 4)), ?_, ?_, ?_⟩
  · rw [e3, es2, hb]; apply ByteArray.ext; simp [ba]
  · rw [hT, rest_step hk]; simp
  · have hlen : (if k = 0 then ([] : Str) else [44]).length = if k = 0 then 0 else 1 := by split <;> rfl
    have hsz : (s2.size : Int) = ((pre.length + (if k = 0 then 0 else 1) + G (2 * k + 3) : Nat) : Int) := by
      rw [es2, ba_len, List.length_append, List.length_append, hlen, bl_len]
    rcases hc with ⟨rfl, hs⟩ | ⟨h1, h2⟩
    · rw [spR_step hk] at hs
      by_cases hin : l[k] ∈ l.take k
      · rw [if_pos hin] at hs
        rw [if_pos ⟨by decide, hin⟩] at ht
        refine .inr ⟨by rw [ht]; omega, ?_⟩
        rw [ht, hsz, ← hs]; rfl
      · rw [if_neg hin] at hs
        rw [if_neg (fun h => hin h.2)] at ht
        refine .inl ⟨ht, ?_⟩
        have h01 : (if k + 1 = 0 then 0 else 1) = 1 := if_neg (by omega)
        rw [← hs, h01, take_snoc' hk]
        congr 1
        simp only [List.length_append, hlen, bl_len]
        all_goals (generalize (if k = 0 then 0 else 1 : Nat) = c; omega)
    · rw [if_neg (fun h => by omega)] at ht
      exact .inr ⟨by rw [ht]; exact h1, by rw [ht]; exact h2⟩

set_option maxRecDepth 100000 in
set_option maxHeartbeats 6400000 in
theorem spaced_law (a0 : Option Addr) (len0 cap0 : Nat) (l0 : List Str) (a1 : Option Addr) (len1 cap1 : Nat) (z1 : List Int) (w : World) (RX0 : Rd w (.slice a0 len0 cap0) (ss l0)) (RZ : IsRow .u8 w a1 len1 cap1 z1) :
    Calls Try.prog 11 #[.slice a0 len0 cap0, .slice a1 len1 cap1] w fun e w' => e = .returned (.bool true) ∧ Below w.heap.size w w' := by
  obtain ⟨s0, hs0⟩ : ∃ s, s = smallB l0 := ⟨_, rfl⟩
  have HS0 : Hid (Calls Try.prog 15 #[.slice a0 len0 cap0] w fun e w' => e = .returned (.bool s0) ∧ w = w') := hid_of (by rw [hs0]; exact small_any a0 len0 cap0 l0 w RX0)
  have RI0 := hid_of RX0
  have HSM0 := hid_of hs0
  have HRZ := hid_of RZ
  have hcz : len1 ≤ 9223372036854775807 := by
    rcases RZ with ⟨_, rfl, _, _⟩ | ⟨x, _, h2, h3, _⟩
    · omega
    · unfold maxLen at h3; omega
  have hn0 := (rds_open RX0).1
  have HN0 := hid_of hn0
  have hnc := (rds_open RX0).2.1
  clear hs0 RX0 RZ hn0
  cases s0
  · go_enter Try.func11, Try.ntmps11
    go_wp2_with (first
      | (go_at_call 15; ((with_reducible refine (HS0.out).mono ?_); (rintro ee w' ⟨rfl, rfl⟩)))
      | (go_at_call 12; ((with_reducible refine (awake_any w).mono ?_); (rintro ee w1 ⟨rfl, h1⟩; have B1 := hid_of h1; clear h1))))
    go_ret
    exact ⟨rfl, B1.out⟩
  by_cases h100 : 100 < len1
  · have d0 : decide ((100 : Int) < (len1 : Int)) = true := by simp; omega
    have d1 : decide (100 < len1) = true := by simp; omega
    clear h100
    go_enter Try.func11, Try.ntmps11
    go_wp2_with (first
      | (go_at_call 15; ((with_reducible refine (HS0.out).mono ?_); (rintro ee w' ⟨rfl, rfl⟩)))
      | (go_at_call 12; ((with_reducible refine (awake_any w).mono ?_); (rintro ee w1 ⟨rfl, h1⟩; have B1 := hid_of h1; clear h1))))
    go_ret
    exact ⟨rfl, B1.out⟩
  have d0 : decide ((100 : Int) < (len1 : Int)) = false := by simp; omega
  have d1 : decide (100 < len1) = false := by simp; omega
  have SM := hid_of (smallB_iff.1 HSM0.out.symm)
  have hn30 : len0 ≤ 30 := by have := HN0.out; have := SM.out.1; omega
  obtain ⟨G, hG⟩ : ∃ G, G = gp z1 len1 := ⟨_, rfl⟩
  have HGL : Hid (∀ i, G i < 4) := hid_of (fun i => by rw [hG]; exact gp_lt _ _ _)
  have GAP : Hid (∀ (i : Nat) (z : Int) (wx : World), z = i → i ≤ 1000 → Below w.heap.size w wx → Calls Try.prog 36 #[.slice a1 len1 cap1, .int .i64 z] wx fun e w' => e = .returned (.string (ba (bl (G i)))) ∧ wx = w') :=
    hid_of (fun i z wx hz hi hb => by subst hz; rw [hG]; exact gap_any a1 len1 cap1 z1 i wx (isrow_at HRZ.out hb) hi (by omega))
  obtain ⟨tl, htl⟩ : ∃ tl, tl = bl (G 2) := ⟨_, rfl⟩
  obtain ⟨TOT, hTOT⟩ : ∃ t, t = bl (G 0) ++ 123 :: bl (G 1) ++ rnd (mkI G 0 l0) tl := ⟨_, rfl⟩
  obtain ⟨RES, hRES⟩ : ∃ r, r = spR (bl (G 0) ++ 123 :: bl (G 1)).length [] (mkI G 0 l0) := ⟨_, rfl⟩
  have HPAR : Hid (allOk l0 = true → parseF (ba TOT) = RES) := hid_of (fun h => by rw [hTOT, htl, hRES]; exact parse_sp _ _ _ _ (mkI_ok (allOk_iff.1 h)))
  obtain ⟨b0, hb0⟩ : ∃ b, b = ba (bl (G 0)) := ⟨_, rfl⟩
  obtain ⟨b1, hb1⟩ : ∃ b, b = ba (bl (G 1)) := ⟨_, rfl⟩
  obtain ⟨b2, hb2⟩ : ∃ b, b = ba (bl (G 2)) := ⟨_, rfl⟩
  have z0 : b0.size ≤ 3 := by have := HGL.out 0; rw [hb0, ba_len, bl_len]; omega
  have z1' : b1.size ≤ 3 := by have := HGL.out 1; rw [hb1, ba_len, bl_len]; omega
  have z2 : b2.size ≤ 3 := by have := HGL.out 2; rw [hb2, ba_len, bl_len]; omega
  have GA0 : Hid (∀ wx, Below w.heap.size w wx → Calls Try.prog 36 #[.slice a1 len1 cap1, .int .i64 0] wx fun e w' => e = .returned (.string b0) ∧ wx = w') := hid_of (fun wx h => by rw [hb0]; exact GAP.out 0 0 wx rfl (by omega) h)
  have GA1 : Hid (∀ wx, Below w.heap.size w wx → Calls Try.prog 36 #[.slice a1 len1 cap1, .int .i64 1] wx fun e w' => e = .returned (.string b1) ∧ wx = w') := hid_of (fun wx h => by rw [hb1]; exact GAP.out 1 1 wx rfl (by omega) h)
  have GA2 : Hid (∀ wx, Below w.heap.size w wx → Calls Try.prog 36 #[.slice a1 len1 cap1, .int .i64 2] wx fun e w' => e = .returned (.string b2) ∧ wx = w') := hid_of (fun wx h => by rw [hb2]; exact GAP.out 2 2 wx rfl (by omega) h)
  have HI0 : Hid (Inv G l0 tl TOT RES 0 (b0 ++ ⟨#[123]⟩ ++ b1) (-1)) := hid_of ⟨bl (G 0) ++ 123 :: bl (G 1), by rw [hb0, hb1]; apply ByteArray.ext; simp [ba], by rw [hTOT, rest_zero], .inl ⟨rfl, by rw [hRES]; simp⟩⟩
  have HTL : Hid (ba (125 :: tl) = ⟨#[125]⟩ ++ b2) := hid_of (by rw [htl, hb2]; apply ByteArray.ext; simp [ba])
  have BW : Hid (Below w.heap.size w w) := hid_of (Below.refl _ _)
  clear hG htl hTOT hRES hb0 hb1 hb2 h100 hcz
  go_enter Try.func11, Try.ntmps11
  go_wp2_with (first
    | (go_at_call 15; ((with_reducible refine (HS0.out).mono ?_); (rintro ee w' ⟨rfl, rfl⟩)))
    | (go_at_call 36; (first
      | ((with_reducible refine (GA0.out w BW.out).mono ?_); (rintro ee w' ⟨rfl, rfl⟩))
      | ((with_reducible refine (GA1.out w BW.out).mono ?_); (rintro ee w' ⟨rfl, rfl⟩)))))
  go_loopw [5, 6, 7] (fun sv tv iv wr => ∃ (k : Nat) (sb : ByteArray) (tw : Int), iv = .int .i64 k ∧ k ≤ len0 ∧ sv = .string sb ∧ tv = .int .i64 tw ∧ sb.size ≤ 10 + 60 * k ∧ Hid (Inv G l0 tl TOT RES k sb tw) ∧ Hid (allOk (l0.take k) = true) ∧ Hid (Below w.heap.size w wr)) (fun _ _ iv _ => len0 - (intOf iv).toNat)
  case atStart => exact ⟨0, _, _, rfl, Nat.zero_le _, rfl, rfl, by simp only [ByteArray.size_append]; have : (⟨#[123]⟩ : ByteArray).size = 1 := rfl; omega, HI0, hid_of rfl, BW⟩
  case round =>
    obtain ⟨k, sb, tw, rfl, hk, rfl, rfl, hsz, hinv, hall, hb⟩ := hrel
    by_cases hlt : k < len0
    · have hd : decide (k < len0) = true := by simp; omega
      have hkl : Hid (k < l0.length) := hid_of (by have := HN0.out; omega)
      obtain ⟨q0, q1, q2, q3⟩ := rds_open RI0.out
      obtain ⟨g, o, rfl, hg, hc⟩ := q3.resolve_left (fun e => by have := hkl.out; rw [e] at this; simp at this)
      obtain ⟨bb, hbb⟩ : ∃ t, t = ba (l0[k]'hkl.out) := ⟨_, rfl⟩
      have c1 := (hb.out.cell (p := ⟨g, o + k, none⟩) hg).trans (hc k _ (List.getElem?_eq_getElem hkl.out))
      rw [← hbb] at c1
      have hbs : bb.size ≤ 40 := by rw [hbb, ba_len]; exact SM.out.2 _ (List.getElem_mem hkl.out)
      have VC := hid_of (vld_any (l0[k]'hkl.out) (by have := SM.out.2 _ (List.getElem_mem hkl.out); omega) bb hbb)
      obtain ⟨qv, hqv⟩ : ∃ q, q = nameOk (l0[k]'hkl.out) := ⟨_, rfl⟩
      rw [← hqv] at VC
      have HQV := hid_of hqv
      have HBB := hid_of hbb
      have HC1 := hid_of c1
      clear hbb hqv q0 q3 hc
      cases qv
      · go_wp2_with (first
          | (go_at_call 13; ((with_reducible refine (VC.out _).mono ?_); (rintro ee w' ⟨rfl, rfl⟩)))
          | (go_at_call 12; ((with_reducible refine (awake_any _).mono ?_); (rintro ee w1 ⟨rfl, h1⟩; have B1 := hid_of (step_b hb.out h1 hb.out.size); clear h1))))
        go_ret
        exact ⟨rfl, B1.out⟩
      have HALL : Hid (allOk (l0.take (k + 1)) = true) := hid_of (by
        rw [take_snoc' hkl.out, allOk, List.all_append, show (l0.take k).all nameOk = true from hall.out]; simp [← HQV.out])
      obtain ⟨h3, hh3⟩ : ∃ t, t = ba (bl (G (2 * k + 3))) := ⟨_, rfl⟩
      obtain ⟨h4, hh4⟩ : ∃ t, t = ba (bl (G (2 * k + 4))) := ⟨_, rfl⟩
      have z3 : h3.size ≤ 3 := by have := HGL.out (2 * k + 3); rw [hh3, ba_len, bl_len]; omega
      have z4 : h4.size ≤ 3 := by have := HGL.out (2 * k + 4); rw [hh4, ba_len, bl_len]; omega
      have GA3 : Hid (∀ wx, Below w.heap.size w wx → Calls Try.prog 36 #[.slice a1 len1 cap1, .int .i64 (2 * (k : Int) + 3)] wx fun e w' => e = .returned (.string h3) ∧ wx = w') := hid_of (fun wx h => by rw [hh3]; exact GAP.out (2 * k + 3) _ wx (by omega) (by omega) h)
      obtain ⟨y2, hy2⟩ : ∃ y : Nat, y = 2 * k := ⟨_, rfl⟩
      obtain ⟨m4, hm4⟩ : ∃ y : Nat, y = 2 * k + 4 := ⟨_, rfl⟩
      have GA4 : Hid (∀ wx, Below w.heap.size w wx → Calls Try.prog 36 #[.slice a1 len1 cap1, .int .i64 (m4 : Int)] wx fun e w' => e = .returned (.string h4) ∧ w' = wx) := hid_of (fun wx h => by rw [hh4]; exact (GAP.out (2 * k + 4) _ wx (by omega) (by omega) h).mono fun _ _ h => ⟨h.1, h.2.symm⟩)
      have p1 : IntKind.i64.wrap (2 * (k : Int)) = (y2 : Int) := by rw [IntWalk.i64_in _ (by omega)]; omega
      have p2 : IntKind.i64.wrap ((y2 : Int) + 4) = (m4 : Int) := by rw [IntWalk.i64_in _ (by omega)]; omega
      have P12 := hid_of (And.intro p1 p2)
      have bk1 : (k : Int) < (len0 : Int) := by omega
      have bk0 : (0 : Int) ≤ (k : Int) := by omega
      have bkc : (k : Int) ≤ (cap0 : Int) := by omega
      have HASK : Hid (∀ wx, Below w.heap.size w wx → Calls Try.prog 21 #[.slice (some ⟨g, o, none⟩) k cap0, .string bb] wx fun e w' => e = .returned (.bool (decide (l0[k]'hkl.out ∈ l0.take k))) ∧ w' = wx) := hid_of (fun wx h => by
        rw [HBB.out]; exact (has_any _ k cap0 (l0.take k) _ wx (rd_take (RI0.out.at h) (by have := hkl.out; omega))).mono fun _ _ h => ⟨h.1, h.2.symm⟩)
      obtain ⟨qh, hqh⟩ : ∃ q, q = decide (l0[k]'hkl.out ∈ l0.take k) := ⟨_, rfl⟩
      rw [← hqh] at HASK
      have HQH := hid_of hqh
      have H34 := hid_of (And.intro hh3 hh4)
      have htw : (tw = -1 ∨ ∃ tn : Nat, tw = tn) := by
        rcases hinv.out with ⟨pre, _, _, ⟨h, _⟩ | ⟨h, _⟩⟩
        · exact .inl h
        · exact .inr (Int.eq_ofNat_of_zero_le h)
      clear hqh hh3 hh4 hy2 hm4 p1 p2 HQV c1 hlt hnc
      by_cases hk0 : k = 0
      all_goals
        first
          | (have g0 : decide (0 < k) = false := (by simp; omega); obtain ⟨s2, hs2⟩ : ∃ t, t = sb ++ h3 := ⟨_, rfl⟩; have E2 : Hid (s2 = (if k = 0 then sb else sb ++ ⟨#[44]⟩) ++ ba (bl (G (2 * k + 3)))) := hid_of (by rw [if_pos hk0, hs2, H34.out.1]); have ze2 : s2.size ≤ 14 + 60 * k := (by rw [hs2, ByteArray.size_append]; omega); have es2 : sb ++ h3 = s2 := hs2.symm; clear hs2 hk0)
          | (have g0 : decide (0 < k) = true := (by simp; omega); obtain ⟨s2, hs2⟩ : ∃ t, t = sb ++ ⟨#[44]⟩ ++ h3 := ⟨_, rfl⟩; have E2 : Hid (s2 = (if k = 0 then sb else sb ++ ⟨#[44]⟩) ++ ba (bl (G (2 * k + 3)))) := hid_of (by rw [if_neg hk0, hs2, H34.out.1]); have ze2 : s2.size ≤ 14 + 60 * k := (by rw [hs2, ByteArray.size_append, ByteArray.size_append]; have : (⟨#[44]⟩ : ByteArray).size = 1 := rfl; omega); have es2 : sb ++ ⟨#[44]⟩ ++ h3 = s2 := hs2.symm; clear hs2 hk0)
        obtain ⟨s3, hs3⟩ : ∃ t, t = s2 ++ (bb ++ h4) := ⟨_, rfl⟩
        have ze3 : s3.size ≤ 10 + 60 * (k + 1) := by rw [hs3, ByteArray.size_append, ByteArray.size_append]; omega
        have es3 : s2 ++ (bb ++ h4) = s3 := hs3.symm
        have STEP : Hid (∀ tw2 : Int, (tw2 = if tw < 0 ∧ (l0[k]'hkl.out) ∈ l0.take k then (s2.size : Int) else tw) → Inv G l0 tl TOT RES (k + 1) s3 tw2) := hid_of (fun tw2 ht => inv_step hinv.out hkl.out HBB.out E2.out (by rw [hs3, H34.out.2]) ht)
        clear hs3
        rcases htw with rfl | ⟨tn, rfl⟩
        · cases qh
          · have ST2 := hid_of (STEP.out (-1) (by rw [if_neg]; intro h; have := HQH.out; rw [decide_eq_true h.2] at this; cases this))
            have c1 := HC1.out
            go_wp2_with (first
              | (go_at_call 13; ((with_reducible refine (VC.out _).mono ?_); (rintro ee w' ⟨rfl, rfl⟩)))
              | (go_at_call 36; ((with_reducible refine (GA3.out _ hb.out).mono ?_); (rintro ee w' ⟨rfl, rfl⟩))))
            go_quiet ((go_at_call 21; exact Calls.quiet_of_same (HASK.out _ (bel_drewN hb.out _))))
            go_wp2
            have cz := (show (wr.drewN nq).cell? ⟨g, o + k, none⟩ = some (.string bb) from c1)
            have bz := hid_of (bel_drewN hb.out nq)
            generalize wr.drewN nq = wz at cz bz ⊢
            obtain ⟨p1, p2⟩ := P12.out
            go_quiet ((go_at_call 36; exact Calls.quiet_of_same (GA4.out _ (bel_drewN bz.out _))))
            clear p1 p2
            go_wp2
            go_roundw
            case rel => exact ⟨k + 1, s3, _, by go_num, by omega, rfl, rfl, ze3, ST2, HALL, hid_of (bel_drewN bz.out _)⟩
            case measure => simp [intOf]; omega
          · have ST2 := hid_of (STEP.out s2.size (by rw [if_pos ⟨by decide, of_decide_eq_true HQH.out.symm⟩]))
            have c1 := HC1.out
            go_wp2_with (first
              | (go_at_call 13; ((with_reducible refine (VC.out _).mono ?_); (rintro ee w' ⟨rfl, rfl⟩)))
              | (go_at_call 36; ((with_reducible refine (GA3.out _ hb.out).mono ?_); (rintro ee w' ⟨rfl, rfl⟩))))
            go_quiet ((go_at_call 21; exact Calls.quiet_of_same (HASK.out _ (bel_drewN hb.out _))))
            go_wp2
            have cz := (show (wr.drewN nq).cell? ⟨g, o + k, none⟩ = some (.string bb) from c1)
            have bz := hid_of (bel_drewN hb.out nq)
            generalize wr.drewN nq = wz at cz bz ⊢
            obtain ⟨p1, p2⟩ := P12.out
            go_quiet ((go_at_call 36; exact Calls.quiet_of_same (GA4.out _ (bel_drewN bz.out _))))
            clear p1 p2
            go_wp2
            go_roundw
            case rel => exact ⟨k + 1, s3, _, by go_num, by omega, rfl, rfl, ze3, ST2, HALL, hid_of (bel_drewN bz.out _)⟩
            case measure => simp [intOf]; omega
        · have ST2 := hid_of (STEP.out tn (by rw [if_neg]; intro h; have := h.1; omega))
          have gt0 : decide ((tn : Int) < 0) = false := by simp
          have c1 := HC1.out
          go_wp2_with (first
            | (go_at_call 13; ((with_reducible refine (VC.out _).mono ?_); (rintro ee w' ⟨rfl, rfl⟩)))
            | (go_at_call 36; ((with_reducible refine (GA3.out _ hb.out).mono ?_); (rintro ee w' ⟨rfl, rfl⟩))))
          go_quiet (fail)
          go_wp2
          have cz := (show (wr.drewN nq).cell? ⟨g, o + k, none⟩ = some (.string bb) from c1)
          have bz := hid_of (bel_drewN hb.out nq)
          generalize wr.drewN nq = wz at cz bz ⊢
          obtain ⟨p1, p2⟩ := P12.out
          go_quiet ((go_at_call 36; exact Calls.quiet_of_same (GA4.out _ (bel_drewN bz.out _))))
          clear p1 p2
          go_wp2
          go_roundw
          case rel => exact ⟨k + 1, s3, _, by go_num, by omega, rfl, rfl, ze3, ST2, HALL, hid_of (bel_drewN bz.out _)⟩
          case measure => simp [intOf]; omega
    · obtain rfl : k = len0 := by omega
      have hd : decide (k < k) = false := by simp
      have HOK : Hid (allOk l0 = true) := hid_of (by have h := hall.out; rw [List.take_of_length_le (by rw [← HN0.out]; exact Nat.le_refl _)] at h; exact h)
      obtain ⟨pre, hpre, hTOT, hc⟩ := hinv.out
      have HFIN : Hid (sb ++ (⟨#[125]⟩ ++ b2) = ba TOT) := hid_of (by
        rw [hTOT, show k = l0.length from HN0.out, rest_end, ← HTL.out, hpre]; apply ByteArray.ext; simp [ba])
      have hz9 : (sb ++ (⟨#[125]⟩ ++ b2)).size ≤ 3000 := by rw [ByteArray.size_append, ByteArray.size_append]; have : (⟨#[125]⟩ : ByteArray).size = 1 := rfl; omega
      have hPA := HPAR.out HOK.out
      rcases hc with ⟨rfl, hs⟩ | ⟨h1, h2⟩
      · have hRS : RES = ⟨setOf l0, 0, 0⟩ := by rw [← hs, show k = l0.length from HN0.out, spR_end, List.take_length]
        have PT := hid_of (fun w1 => parse_lit (ba TOT) (setOf l0) 0 0 (hPA.trans hRS) (by rw [← HFIN.out]; omega) w1)
        have OF := hid_of (fun w1 (h : Below w.heap.size w w1) => of_any a0 k cap0 l0 w1 (RI0.out.at h) (by have := SM.out.1; unfold big; omega))
        obtain ⟨fs, hfs⟩ : ∃ t, t = sb ++ (⟨#[125]⟩ ++ b2) := ⟨_, rfl⟩
        have efs : sb ++ (⟨#[125]⟩ ++ b2) = fs := hfs.symm
        rw [← HFIN.out, efs] at PT
        obtain ⟨L, hL⟩ : ∃ L, L = setOf l0 := ⟨_, rfl⟩
        rw [← hL] at PT OF
        have HLB : Hid (L.length ≤ 1000) := hid_of (by rw [hL]; have := setOf_le l0; have := SM.out.1; omega)
        obtain ⟨m, hm⟩ : ∃ m, m = L.length := ⟨_, rfl⟩
        rw [← hm] at PT OF
        have PT2 : Hid (∀ w1, Calls Try.prog 34 #[.string fs] w1 fun e w' => ∃ xo xc, e = .returned (.tuple #[.slice xo m xc, .int .i64 0, .int .i64 0]) ∧ Ow 9 w1.heap.size w1 w' (.slice xo m xc) (ss L)) := hid_of PT.out
        have SA : Hid (∀ w xo xc yo yc, Rd w (.slice xo m xc) (ss L) → Rd w (.slice yo m yc) (ss L) → Calls Try.prog 25 #[.slice xo m xc, .slice yo m yc] w fun e w' => e = .returned (.bool true) ∧ Below w.heap.size w w') := hid_of (fun w xo xc yo yc R1 R2 => rsame_q true xo m xc yo m yc L L w R1 R2 (by simp))
        clear hm hL hfs hPA hRS hs hpre hTOT PT hz9
        go_wp2_with (first
          | (go_at_call 36; ((with_reducible refine (GA2.out _ hb.out).mono ?_); (rintro ee w' ⟨rfl, rfl⟩)))
          | (go_at_call 34; ((with_reducible refine (PT2.out _).mono ?_); (rintro ee w3 ⟨xo3, xc3, rfl, h1⟩; have R3 := hid_of (h1.rd (by rw [ss_length]; have := HLB.out; omega)); have B3 := hid_of (step_b hb.out h1.bel hb.out.size); clear h1)))
          | (go_at_call 12; ((with_reducible refine (awake_any w3).mono ?_); (rintro ee w4 ⟨rfl, h1⟩; replace R3 := hid_of (R3.out.at h1); have B4 := hid_of (step_b B3.out h1 B3.out.size); clear h1)))
          | (go_at_call 17; ((with_reducible refine (OF.out w4 B4.out).mono ?_); (rintro ee w5 ⟨xo5, xc5, rfl, h1⟩; replace R3 := hid_of (R3.out.at h1.bel); have R5 := hid_of (h1.rd (by rw [ss_length]; have := HLB.out; omega)); have B5 := hid_of (step_b B4.out h1.bel B4.out.size); clear h1)))
          | (go_at_call 25; ((with_reducible refine (SA.out w5 xo3 xc3 xo5 xc5 R3.out R5.out).mono ?_); (rintro ee w6 ⟨rfl, h1⟩; have B6 := hid_of (step_b B5.out h1 B5.out.size); clear h1))))
        go_ret
        exact ⟨rfl, B6.out⟩
      · obtain ⟨tn, rfl⟩ := Int.eq_ofNat_of_zero_le h1
        have PT := hid_of (fun w1 => parse_lit (ba TOT) [] tn 3 (hPA.trans h2) (by rw [← HFIN.out]; omega) w1)
        obtain ⟨fs, hfs⟩ : ∃ t, t = sb ++ (⟨#[125]⟩ ++ b2) := ⟨_, rfl⟩
        have efs : sb ++ (⟨#[125]⟩ ++ b2) = fs := hfs.symm
        rw [← HFIN.out, efs] at PT
        have PT2 : Hid (∀ w1, Calls Try.prog 34 #[.string fs] w1 fun e w' => ∃ xo xc, e = .returned (.tuple #[.slice xo 0 xc, .int .i64 tn, .int .i64 3]) ∧ Ow 9 w1.heap.size w1 w' (.slice xo 0 xc) (ss [])) := hid_of PT.out
        have t1 : decide ((0 : Int) ≤ (tn : Int)) = true := by simp
        have t2 : (tn == tn) = true := by simp
        have t3 : ((tn : Int) == (tn : Int)) = true := by simp
        clear hfs hPA h2 hpre hTOT PT hz9 h1
        go_wp2_with (first
          | (go_at_call 36; ((with_reducible refine (GA2.out _ hb.out).mono ?_); (rintro ee w' ⟨rfl, rfl⟩)))
          | (go_at_call 34; ((with_reducible refine (PT2.out _).mono ?_); (rintro ee w3 ⟨xo3, xc3, rfl, h1⟩; have B3 := hid_of (step_b hb.out h1.bel hb.out.size); clear h1)))
          | (go_at_call 12; ((with_reducible refine (awake_any w3).mono ?_); (rintro ee w4 ⟨rfl, h1⟩; have B4 := hid_of (step_b B3.out h1 B3.out.size); clear h1))))
        go_ret
        exact ⟨rfl, B4.out⟩
end Go.Proofs.Ytkpblmmgaglhoaa
