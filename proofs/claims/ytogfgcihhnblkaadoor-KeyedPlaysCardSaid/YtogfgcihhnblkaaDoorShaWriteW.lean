/- Write: its walk. Bounds on the sizes. -/
import Derived.Test.YtogfgcihhnblkaaDoorShaWrite
namespace Go.Proofs.YtogfgcihhnblkaaDoor
open Go.RowKit

def lenOf : Value → Nat
  | .slice _ n _ => n
  | _ => 0

/-- What is still to be written: the slice v reads as l, and lies outside of block b. -/
def Rest (w : World) (b : Nat) (v : Value) (l : List Int) : Prop :=
  ∃ ao cap, v = .slice ao l.length cap ∧ l.length ≤ cap ∧ cap ≤ 9223372036854775807 ∧ (0 < l.length → ∃ g o, ao = some ⟨g, o, none⟩ ∧ g ≠ b ∧ g < w.heap.size ∧ ∀ j u, (bs l)[j]? = some u → w.cell? ⟨g, o + j, none⟩ = some u)
theorem Rest.kept {w w' : World} {b : Nat} {v : Value} {l : List Int} (h : Rest w b v l) (hk : Kept (fun k => k = b) w w') : Rest w' b v l := by
  obtain ⟨ao, cap, h1, h2, h3, h4⟩ := h
  refine ⟨ao, cap, h1, h2, h3, fun h0 => ?_⟩
  obtain ⟨g, o, q1, q2, q3, q4⟩ := h4 h0
  exact ⟨g, o, q1, q2, Nat.lt_of_lt_of_le q3 hk.size, fun j u hu => (World.cell?_of_block (a := ⟨g, o + j, none⟩) (hk.block g q3 q2)).trans (q4 j u hu)⟩

theorem Rest.next {w w' : World} {b k q c g o cap : Nat} {l : List Int} (hk : Kept (fun k => k = b) w w') (hl : (l.drop k).length = q) (hc : c ≤ q) (hcap : q ≤ cap) (hcap2 : cap ≤ 9223372036854775807) (hgb : g ≠ b) (hgl : g < w.heap.size)
    (hcells : ∀ j u, (bs (l.drop k))[j]? = some u → w.cell? ⟨g, o + j, none⟩ = some u) : Rest w' b (.slice (some ⟨g, o + c, none⟩) (q - c) (cap - c)) (l.drop (k + c)) := by
  have e : (l.drop (k + c)).length = q - c := by rw [← hl, List.length_drop, List.length_drop]; omega
  refine ⟨_, _, by rw [e], by omega, by omega, fun _ => ⟨g, o + c, rfl, hgb, Nat.lt_of_lt_of_le hgl hk.size, fun j u hu => ?_⟩⟩
  refine (World.cell?_of_block (a := ⟨g, o + c + j, none⟩) (hk.block g hgl hgb)).trans ?_
  rw [Nat.add_assoc]
  refine hcells (c + j) u ?_
  rw [← List.drop_drop, bs_drop, List.getElem?_drop] at hu
  exact hu
theorem Rest.last {w' : World} {b k q c : Nat} {l : List Int} {ao : Option Addr} (hl : (l.drop k).length = q) (hc : q = c) : Rest w' b (.slice ao (q - c) 0) (l.drop (k + c)) := by
  have e : (l.drop (k + c)).length = q - c := by rw [← hl, List.length_drop, List.length_drop]; omega
  exact ⟨_, _, by rw [e], by omega, by omega, fun h => by omega⟩
theorem take_step {m l M X : List Int} {k c : Nat} (hM : M = m ++ l.take k) (hX : X = (l.drop k).take c) : m ++ l.take (k + c) = M ++ X := by
  rw [hM, hX, List.append_assoc, List.take_add]
theorem SB.setLen' {w : World} {b : Nat} {s : R8} {B : List Int} {n n' : Nat} {z : Int} (h : SB w b s B n) (hz : z = n') : SB (w.setCell ⟨b, 72, none⟩ (.int .i64 z)) b s B n' := by
  subst hz; exact h.setLen n'
theorem mix_q (s q : R8) (b o : Nat) (B : List Int) (w : World) (hq : q = mixF s B) (hs : s.ok) (h : Bytes64 w b o B) (hG : Glob w) :
    Calls Tryd.prog 45 #[.agg #[.int .u32 s.a, .int .u32 s.b, .int .u32 s.c, .int .u32 s.d, .int .u32 s.e, .int .u32 s.f, .int .u32 s.g, .int .u32 s.h], .pointer (some ⟨b, o, none⟩)] w fun e w' =>
      e = .returned (.agg #[.int .u32 q.a, .int .u32 q.b, .int .u32 q.c, .int .u32 q.d, .int .u32 q.e, .int .u32 q.f, .int .u32 q.g, .int .u32 q.h]) ∧ Below w.heap.size w w' := by
  subst hq; exact mix_any s b o B w hs h hG
theorem Glob.kept {w w' : World} {b : Nat} (h : Glob w) (hb : 2 ≤ b) (hk : Kept (fun k => k = b) w w') : Glob w' :=
  h.bel (hk.below h.two (fun k hk => by omega)) (Nat.le_refl _)

set_option maxRecDepth 100000 in
set_option maxHeartbeats 3200000 in
theorem write_any (b : Nat) (m l : List Int) (v : Value) (w : World) (h : Sst w b m) (hR : Rest w b v l) (hl : ∀ y ∈ l, 0 ≤ y ∧ y ≤ 255) (hG : Glob w) (hb : 2 ≤ b) (hn : m.length + l.length ≤ 1000000000000) :
    Calls Tryd.prog 38 #[.pointer (some ⟨b, 0, none⟩), v] w fun e w' => e = .returned (.tuple #[]) ∧ Sst w' b (m ++ l) ∧ Kept (fun k => k = b) w w' := by
  have H := hid_of h
  have HR := hid_of hR
  have HL := hid_of hl
  have HG := hid_of hG
  clear h hR hl hG
  go_enter Tryd.func38, Tryd.ntmps38
  go_wp2
  go_loopw [1] (fun q wr => ∃ k : Nat, k ≤ l.length ∧ Hid (Rest wr b q (l.drop k)) ∧ Hid (Sst wr b (m ++ l.take k)) ∧ Hid (Kept (fun k => k = b) w wr)) (fun q _ => lenOf q)
  case atStart => exact ⟨0, Nat.zero_le _, hid_of (by simpa using HR.out), hid_of (by simpa using H.out), hid_of (Kept.refl _ _)⟩
  case round =>
    obtain ⟨k, hk, hrest, hst, hkept⟩ := hrel
    obtain ⟨ao, cap, rfl, hcap, hcap2, hsrc⟩ := hrest.out
    obtain ⟨q, hq⟩ : ∃ q, q = (l.drop k).length := ⟨_, rfl⟩
    rw [← hq] at hcap hsrc ⊢
    have HQ := hid_of hq
    have hqk : q = l.length - k := by rw [hq, List.length_drop]
    have HQK := hid_of hqk
    have hq1 : q ≤ 1000000000000 := by omega
    clear hq
    by_cases h0 : 0 < q
    · obtain ⟨g, o, rfl, hgb, hgl, hcells⟩ := hsrc h0
      obtain ⟨B, hsb, htail⟩ := hst.out
      obtain ⟨M, hM⟩ : ∃ M, M = m ++ l.take k := ⟨_, rfl⟩
      rw [← hM] at hsb htail
      have hML : M.length = m.length + k := by rw [hM, List.length_append, List.length_take]; omega
      have hM1 : M.length ≤ 1000000000000 := by omega
      have HM := hid_of hM
      have cl := hsb.length
      have HSB := hid_of hsb
      have HT := hid_of htail
      have HC := hid_of hcells
      clear hM hML hsb htail hcells hqk
      obtain ⟨r, hr⟩ : ∃ r, r = M.length % 64 := ⟨_, rfl⟩
      have hr64 : r < 64 := by omega
      have hrI : ((M.length : Int) % 64) = (r : Int) := by omega
      have HRR := hid_of hr
      have hrT : (M.length : Int).tmod 64 = (r : Int) := by rw [Int.tmod_eq_emod_of_nonneg (by omega)]; omega
      have hrW : IntKind.i64.wrap (r : Int) = (r : Int) := IntWalk.i64_in _ (by omega)
      have hr1 : (r : Int) ≤ 64 := by omega
      have hr2 : ¬ (64 = r) := by omega
      clear hr
      obtain ⟨c, hc⟩ : ∃ c, c = Nat.min q (64 - r) := ⟨_, rfl⟩
      have hcq : c ≤ q := by rw [hc]; exact Nat.min_le_left _ _
      have hcr : r + c ≤ 64 := by have : c ≤ 64 - r := by { rw [hc]; exact Nat.min_le_right _ _ }
                                  omega
      have hc0 : 0 < c := by rw [hc]; show 0 < min q (64 - r); omega
      have HC0 := hid_of hc
      clear hc
      obtain ⟨X, hX⟩ : ∃ X, X = (l.drop k).take c := ⟨_, rfl⟩
      have HX := hid_of hX
      have HXL : Hid (X.length = c) := hid_of (by rw [hX, List.length_take, List.length_drop]; have := HQK.out; omega)
      have HXR : Hid (∀ y ∈ X, 0 ≤ y ∧ y ≤ 255) := hid_of (by rw [hX]; exact fun y hy => HL.out y (List.mem_of_mem_drop (List.mem_of_mem_take hy)))
      clear hX
      obtain ⟨s, hs⟩ : ∃ s, s = HB M := ⟨_, rfl⟩
      rw [← hs] at HSB
      have HS := hid_of hs
      clear hs
      go_wp2
      go_still_tail 10, (by kernel_rfl)
      clear hrT hrW hr1 hr2 cl
      change wpList _ _ _ _ _ wr.drew
      have HSB2 : Hid (SB wr.drew b s B M.length) := hid_of ⟨HSB.out.len, HSB.out.rng, HSB.out.blk⟩
      have HW2 : Hid (Kept (fun k => k = b) wr wr.drew) := hid_of (Kept.refl _ _).drew
      have HK2 : Hid (Kept (fun k => k = b) w wr.drew) := hid_of hkept.out.drew
      have HC2 : Hid (∀ j u, (bs (l.drop k))[j]? = some u → wr.drew.cell? ⟨g, o + j, none⟩ = some u) := HC
      generalize wr.drew = w2 at *
      refine wpList_copy_own rfl (.tmp 16) (.tmp 17) 22 22 rfl 5 Tryd.underlying22 Tryd.sizeU8 b (8 + r) (64 - r) (64 - r) ⟨g, o, none⟩ q cap rfl rfl (rowSt s B M.length).toArray 75 HSB2.out.blk (bs X) (by rw [bs_length, HXL.out]; exact HC0.out) ?_ ?_ (bs_one X) ?_
      · intro j u hu
        rw [Addr.add_mid]
        refine HC2.out j u ?_
        rw [HX.out, bs_take, List.getElem?_take] at hu
        split at hu
        · exact hu
        · cases hu
      · have := rowSt_length s B M.length HSB2.out.len
        simp only [List.size_toArray, bs_length, HXL.out]
        omega
      have HSB3 := hid_of (HSB2.out.copy (X := X) (r := r) (by rw [HXL.out]; exact hcr) HXR.out)
      have HK3 := hid_of (HK2.out.setRow (g := b) rfl ((rowSt s B M.length).toArray.toList.take (8 + r) ++ (bs X ++ (rowSt s B M.length).toArray.toList.drop (8 + r + (bs X).length))).toArray)
      have HW3 := hid_of (HW2.out.setRow (g := b) rfl ((rowSt s B M.length).toArray.toList.take (8 + r) ++ (bs X ++ (rowSt s B M.length).toArray.toList.drop (8 + r + (bs X).length))).toArray)
      generalize w2.setRow b ((rowSt s B M.length).toArray.toList.take (8 + r) ++ (bs X ++ (rowSt s B M.length).toArray.toList.drop (8 + r + (bs X).length))).toArray = w3 at *
      rw [bs_length, HXL.out]
      obtain ⟨B1, hB1⟩ : ∃ B1, B1 = blk B r X := ⟨_, rfl⟩
      rw [← hB1] at HSB3
      have HB1 := hid_of hB1
      clear hB1
      have cl := HSB3.out.length
      have fl := HSB3.out.free 72
      have hml : M.length ≤ 1000000000000 := hM1
      have HSB4 : Hid (SB (w3.setCell ⟨b, 72, none⟩ (.int .i64 ((M.length : Int) + (c : Int)))) b s B1 (M.length + c)) := hid_of (HSB3.out.setLen' (by push_cast; rfl))
      have HK4 := hid_of (HK3.out.set1 (j := 72) (.int .i64 ((M.length : Int) + (c : Int))))
      have HW4 := hid_of (HW3.out.set1 (j := 72) (.int .i64 ((M.length : Int) + (c : Int))))
      have HXM : Hid (m ++ l.take (k + c) = M ++ X) := hid_of (take_step HM.out HX.out)
      have HMX : Hid ((M ++ X).length = M.length + c) := hid_of (by rw [List.length_append, HXL.out])
      by_cases hfull : r + c = 64
      · by_cases hcc : cap = c
        all_goals
          go_wp2
          generalize w3.setCell ⟨b, 72, none⟩ (.int .i64 ((M.length : Int) + (c : Int))) = w4 at *
          have HSB4D : Hid (SB w4.drew b s B1 (M.length + c)) := hid_of ⟨HSB4.out.len, HSB4.out.rng, HSB4.out.blk⟩
          have HG4 : Hid (Glob w4.drew) := hid_of (HG.out.kept hb HK4.out.drew)
          obtain ⟨x0, x1, x2, x3, x4, x5, x6, x7⟩ := HSB4D.out.word
          obtain ⟨mq, hmq⟩ : ∃ mq, mq = mixF s B1 := ⟨_, rfl⟩
          have HMQ := hid_of hmq
          clear hmq
          go_region_with ((go_at_call 45; refine (mix_q s mq b 8 B1 w4.drew HMQ.out (by rw [HS.out]; exact HB_ok M) HSB4D.out.bytes HG4.out).mono ?_; rintro e w5 ⟨rfl, h5⟩; have HSB5 := hid_of (HSB4D.out.later (h5.block b HSB4D.out.lt)); have HB5 := hid_of h5; clear h5; obtain ⟨z0, z1, z2, z3, z4, z5, z6, z7⟩ := HSB5.out.word; have f0 := HSB5.out.free 0; have f1 := HSB5.out.free 1; have f2 := HSB5.out.free 2; have f3 := HSB5.out.free 3; have f4 := HSB5.out.free 4; have f5 := HSB5.out.free 5; have f6 := HSB5.out.free 6; have f7 := HSB5.out.free 7))
          go_wp2
          go_roundw
          case rel =>
            have HK6 := (HK4.out.drew.trans (Kept.ofBelow HB5.out)).trans (setWords_kept mq)
            have HW6 := (HW4.out.drew.trans (Kept.ofBelow HB5.out)).trans (setWords_kept mq)
            refine ⟨k + c, by have := HQK.out; omega, ?_, hid_of ?_, hid_of HK6⟩
            · first
              | exact hid_of (Rest.next HW6 HQ.out.symm hcq hcap hcap2 hgb hgl HC.out)
              | exact hid_of (Rest.last HQ.out.symm (by omega))
            · rw [HXM.out]
              refine Sst.full (by rw [← HRR.out, HXL.out]; exact hfull) HSB2.out.len HT.out ?_
              rw [← HRR.out, ← HB1.out, HMX.out, ← HS.out, ← HMQ.out]
              exact HSB5.out.setWords mq
          case measure => simp only [lenOf]; omega
      · by_cases hcc : cap = c
        all_goals
          go_wp2
          go_roundw
          case rel =>
            refine ⟨k + c, by have := HQK.out; omega, ?_, hid_of ?_, HK4⟩
            · first
              | exact hid_of (Rest.next HW4.out HQ.out.symm hcq hcap hcap2 hgb hgl HC.out)
              | exact hid_of (Rest.last HQ.out.symm (by omega))
            · rw [HXM.out]
              refine Sst.short (by rw [← HRR.out, HXL.out]; omega) HSB2.out.len HT.out ?_
              rw [← HRR.out, ← HB1.out, HMX.out, ← HS.out]
              exact HSB4.out
          case measure => simp only [lenOf]; omega
    · have hkl : k = l.length := by have := HQK.out; omega
      go_wp2
      go_end0
      refine ⟨rfl, ?_, hkept.out⟩
      have := hst.out
      rw [hkl, List.take_length] at this
      exact this
end Go.Proofs.YtogfgcihhnblkaaDoor
