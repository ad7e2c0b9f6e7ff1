/- KeyedBlocks. -/
import Derived.Test.YtdgihleekemnnaaDoorKeyBlkM
import Derived.Deep.RegionHeldLaw
namespace Go.Proofs.YtdgihleekemnnaaDoor
open Go.RowKit

set_option maxRecDepth 100000 in
set_option maxHeartbeats 12800000 in
theorem keyedBlocks_law (a0 a1 : Option Addr) (n0 n1 c0 c1 : Nat) (z0 z1 : List Int) (w : World) (hG : Glob w) (w0 : IsRow .u8 w a0 n0 c0 z0) (w1 : IsRow .u8 w a1 n1 c1 z1) :
    Calls Tryd.prog 8 #[.slice a0 n0 c0, .slice a1 n1 c1] w fun e w' => e = .returned (.bool true) ∧ Below w.heap.size w w' := by
  obtain ⟨k, hk, kr, hK⟩ := w0.lies
  obtain ⟨m, hm, mr, hM⟩ := w1.lies
  have AWK := hid_of (awake_any w hG)
  obtain ⟨r, hr⟩ : ∃ r, r = (decide (n0 ≤ 2000) && decide (n1 ≤ 2000)) := ⟨_, rfl⟩
  have SH := hid_of (fun w => short_any a0 a1 n0 c0 n1 c1 r w hr)
  cases r
  · clear hG w0 w1 hK hM kr mr hk hm hr
    go_enter Tryd.func8, Tryd.ntmps8
    go_wp2_with (first
      | (go_at_call 10; ((with_reducible refine AWK.out.mono ?_); (rintro e w1 ⟨rfl, h1⟩; have HB1 := hid_of h1; clear h1)))
      | (go_at_call 11; ((with_reducible refine (SH.out w1).mono ?_); (rintro e w' ⟨rfl, rfl⟩))))
    go_ret
    exact ⟨rfl, HB1.out⟩
  have hn : n0 ≤ 2000 ∧ n1 ≤ 2000 := by simpa using hr.symm
  obtain ⟨T, hT⟩ : ∃ T, T = hmac k m := ⟨_, rfl⟩
  obtain ⟨ST, hST⟩ : ∃ ST, ST = strOfNums T := ⟨_, rfl⟩
  have CV : Hid (∀ W g c, Lies W (.slice (some ⟨g, 0, none⟩) 32 c) T → (convert 22 9 (.slice (some ⟨g, 0, none⟩) 32 c)).run Tryd.prog W = .ok (.string ST) W) := hid_of (fun W g c hl => by rw [hST]; exact conv_lies hl)
  have TGX : Hid (∀ W v l, Below w.heap.size w W → Lies W v l → (∀ y ∈ l, 0 ≤ y ∧ y ≤ 255) → l.length ≤ 80000000000 → hmac l m = T → Calls Tryd.prog 12 #[v, .slice a1 n1 c1] W fun e w' => ∃ g c, e = .returned (.slice (some ⟨g, 0, none⟩) 32 c) ∧ Lies w' (.slice (some ⟨g, 0, none⟩) 32 c) T ∧ Below W.heap.size W w') := hid_of (fun W v l hb hl hlr hln e => by
    have := tag_any v _ l m W hl (hM.later hb (Nat.le_refl _)) hlr mr (hG.bel hb hG.two) hln (by omega)
    rw [e] at this
    exact this.mono fun e w' ⟨g, c, h1, _, h2, h3⟩ => ⟨g, c, h1, h2, h3⟩)
  have TAG : Hid (∀ W, Below w.heap.size w W → Calls Tryd.prog 12 #[.slice a0 n0 c0, .slice a1 n1 c1] W fun e w' => ∃ g c, e = .returned (.slice (some ⟨g, 0, none⟩) 32 c) ∧ Lies w' (.slice (some ⟨g, 0, none⟩) 32 c) T ∧ Below W.heap.size W w') := hid_of (fun W hb => TGX.out W _ k hb (hK.later hb (Nat.le_refl _)) kr (by omega) hT.symm)
  have h3 : n0 = 64 ∨ 64 < n0 ∨ n0 < 64 := by omega
  rcases h3 with h64 | h64 | h64
  · have d1 : decide ((n0 : Int) > 64) = false := by simp; omega
    have d2 : decide ((n0 : Int) < 64) = false := by simp; omega
    clear hG w0 w1 hK hM kr mr hk hm hr hT hST TGX hn h64
    go_enter Tryd.func8, Tryd.ntmps8
    go_wp2_with (first
      | (go_at_call 10; ((with_reducible refine AWK.out.mono ?_); (rintro e w1 ⟨rfl, h1⟩; have HB1 := hid_of h1; clear h1)))
      | (go_at_call 11; ((with_reducible refine (SH.out w1).mono ?_); (rintro e w' ⟨rfl, rfl⟩)))
      | (go_at_call 12; ((with_reducible refine (TAG.out w1 HB1.out).mono ?_); (rintro e w2 ⟨gt, tc, rfl, h2, hb2⟩; have HB2 := hid_of (HB1.out.trans (hb2.mono HB1.out.size)); clear h2 hb2))))
    go_ret
    exact ⟨rfl, HB2.out⟩
  · have d1 : decide ((n0 : Int) > 64) = true := by simp; omega
    obtain ⟨d, hd⟩ : ∃ d, d = digest k := ⟨_, rfl⟩
    have dl : d.length = 32 := by rw [hd]; rfl
    have dr : ∀ y ∈ d, 0 ≤ y ∧ y ≤ 255 := by rw [hd]; exact digest_rng _
    have TAG2 : Hid (∀ W v, Below w.heap.size w W → Lies W v d → Calls Tryd.prog 12 #[v, .slice a1 n1 c1] W fun e w' => ∃ g c, e = .returned (.slice (some ⟨g, 0, none⟩) 32 c) ∧ Lies w' (.slice (some ⟨g, 0, none⟩) 32 c) T ∧ Below W.heap.size W w') := hid_of (fun W v hb hl => TGX.out W v d hb hl dr (by omega) (by rw [hd, hmac_long m (by omega)]; exact hT.symm))
    obtain ⟨DS, hDS⟩ : ∃ DS, DS = strOfNums d := ⟨_, rfl⟩
    have SUM : Hid (∀ W, Below w.heap.size w W → Calls Tryd.prog 24 #[.slice a0 n0 c0] W fun e w' => e = .returned (.string DS) ∧ Below W.heap.size W w') := hid_of (fun W hb => by
      have := sumf_any _ k W (hK.later hb (Nat.le_refl _)) kr (hG.bel hb hG.two) (by omega)
      rw [← hd, ← hDS] at this
      exact this)
    obtain ⟨cp, hcp⟩ : ∃ cp : World → Nat, cp = fun W => grownCap W 32 0 5 := ⟨_, rfl⟩
    obtain ⟨bw, hbw⟩ : ∃ bw : World → World, bw = fun W => Lib.bytesWorld W 5 DS := ⟨_, rfl⟩
    have CB : ∀ W, (convert 9 22 (.string DS)).run Tryd.prog W = .ok (.slice (some ⟨W.heap.size, 0, none⟩) 32 (cp W)) (bw W) := fun W => by
      have := (bytes_lies W d dr (by rw [dl]; unfold maxLen; omega)).1
      rw [dl, ← hDS] at this
      rw [hcp, hbw]; exact this
    have BW : Hid (∀ W, Lies (bw W) (.slice (some ⟨W.heap.size, 0, none⟩) 32 (cp W)) d ∧ Below W.heap.size W (bw W)) := hid_of (fun W => by
      have := (bytes_lies W d dr (by rw [dl]; unfold maxLen; omega)).2
      rw [dl, ← hDS] at this
      rw [hcp, hbw]; exact this)
    clear hG w0 w1 hK hM kr mr hk hm hr hT hST TGX hn h64 hd dl dr hDS hcp hbw
    go_enter Tryd.func8, Tryd.ntmps8
    go_wp2_with (first
      | (go_at_call 10; ((with_reducible refine AWK.out.mono ?_); (rintro e w1 ⟨rfl, h1⟩; have HB1 := hid_of h1; clear h1)))
      | (go_at_call 11; ((with_reducible refine (SH.out w1).mono ?_); (rintro e w' ⟨rfl, rfl⟩)))
      | (go_at_call 12; ((with_reducible refine (TAG.out w1 HB1.out).mono ?_); (rintro e w2 ⟨gt, tc, rfl, h2, hb2⟩; have LT2 := hid_of h2; have HB2 := hid_of (HB1.out.trans (hb2.mono HB1.out.size)); clear h2 hb2))))
    have HBD := hid_of HB2.out.drew
    have CVT : Hid (∀ W, Below w2.drew.heap.size w2.drew W → (convert 22 9 (.slice (some ⟨gt, 0, none⟩) 32 tc)).run Tryd.prog W = .ok (.string ST) W) := hid_of (fun W hb => CV.out W gt tc ((LT2.out.later (Below.refl _ w2).drew (Nat.le_refl _)).later hb (Nat.le_refl _)))
    clear LT2 AWK SH TAG HB1 HB2
    go_region_held_law (fun W => (convert 22 9 (.slice (some ⟨gt, 0, none⟩) 32 tc)).run Tryd.prog W = .ok (.string ST) W) (first | exact CVT.out _ (Below.refl _ _) | exact CVT.out _ P3.out | exact CVT.out _ P4.out | exact CVT.out _ P5.out) (first
      | (go_at_call 24; ((with_reducible refine (SUM.out w2.drew HBD.out).mono ?_); (rintro e w3 ⟨rfl, h3⟩; have P3 := hid_of h3; have P4 := hid_of (h3.trans ((BW.out w3).2.mono h3.size)); have L4 := hid_of (BW.out w3).1; clear h3)))
      | (go_at_call 12; ((with_reducible refine (TAG2.out (bw w3) _ (HBD.out.trans (P4.out.mono HBD.out.size)) L4.out).mono ?_); (rintro e w5 ⟨g5, c5, rfl, h5, hb5⟩; have P5 := hid_of (P4.out.trans (hb5.mono P4.out.size)); have cv5 := CV.out w5 g5 c5 h5; clear h5 hb5))))
    all_goals go_wp2
    all_goals go_ret
    all_goals exact ⟨by simp, HBD.out.trans (P5.out.mono HBD.out.size)⟩
  · have d1 : decide ((n0 : Int) > 64) = false := by simp; omega
    have d2 : decide ((n0 : Int) < 64) = true := by simp; omega
    have TAG2 : Hid (∀ W v, Below w.heap.size w W → Lies W v (k ++ [0]) → Calls Tryd.prog 12 #[v, .slice a1 n1 c1] W fun e w' => ∃ g c, e = .returned (.slice (some ⟨g, 0, none⟩) 32 c) ∧ Lies w' (.slice (some ⟨g, 0, none⟩) 32 c) T ∧ Below W.heap.size W w') := hid_of (fun W v hb hl => TGX.out W v (k ++ [0]) hb hl (by intro y hy; rcases List.mem_append.1 hy with h | h; exact kr y h; simp at h; omega) (by simp; omega) (by rw [hmac_zero m (by omega)]; exact hT.symm))
    have HK := hid_of hK
    have HKL : Hid (k.length = n0 ∧ n0 < 64) := hid_of ⟨hk, h64⟩
    clear hG w0 w1 hK hM kr mr hk hm hr hT hST TGX hn h64
    go_enter Tryd.func8, Tryd.ntmps8
    go_wp2_with (first
      | (go_at_call 10; ((with_reducible refine AWK.out.mono ?_); (rintro e w1 ⟨rfl, h1⟩; have HB1 := hid_of h1; clear h1)))
      | (go_at_call 11; ((with_reducible refine (SH.out w1).mono ?_); (rintro e w' ⟨rfl, rfl⟩)))
      | (go_at_call 12; ((with_reducible refine (TAG.out w1 HB1.out).mono ?_); (rintro e w2 ⟨gt, tc, rfl, h2, hb2⟩; have LT2 := hid_of h2; have HB2 := hid_of (HB1.out.trans (hb2.mono HB1.out.size)); clear h2 hb2))))
    have HBD := hid_of HB2.out.drew
    have HKD := hid_of (HK.out.later HBD.out (Nat.le_refl _))
    have CVT : Hid (∀ W, Below w2.drew.heap.size w2.drew W → (convert 22 9 (.slice (some ⟨gt, 0, none⟩) 32 tc)).run Tryd.prog W = .ok (.string ST) W) := hid_of (fun W hb => CV.out W gt tc ((LT2.out.later (Below.refl _ w2).drew (Nat.le_refl _)).later hb (Nat.le_refl _)))
    have Q1 : Hid (∀ o, Below w2.drew.heap.size w2.drew (w2.drew.alloc o)) := hid_of (fun o => bel_alloc _ o)
    have Q2 : Hid (∀ o o', Below w2.drew.heap.size w2.drew ((w2.drew.alloc o).alloc o')) := hid_of (fun o o' => (bel_alloc _ o).alloc (bel_alloc _ o).size o')
    have LZ := hid_of (fun (W : World) => lies_new (w := W) (l := [0]) (n := 1) (cs := #[.int .u8 0]) (m := (0, 0)) rfl (by simp [bs]) (by simp))
    clear LT2 AWK SH TAG HB1 HB2 HK
    go_region_held_law (fun W => (convert 22 9 (.slice (some ⟨gt, 0, none⟩) 32 tc)).run Tryd.prog W = .ok (.string ST) W) (first | exact CVT.out _ (Below.refl _ _) | exact CVT.out _ (Q1.out _) | exact CVT.out _ (Q2.out _ _) | exact CVT.out _ P3.out | exact CVT.out _ (P3.out.alloc P3.out.size _) | exact CVT.out _ P6.out | exact CVT.out _ P7.out) (first
      | (refine step_appk rfl _ _ rfl (v := .slice (some ⟨w2.drew.heap.size, 0, none⟩) 0 0) (by rfl) (os_empty w2.drew) (vx := .slice a0 n0 c0) (by rfl) (HKD.out.at (Q1.out _)) (by have := HKL.out; simp; omega) ?_; intro xo n3 xc w3 hn3 h3 hg3; obtain rfl : n0 = n3 := (by rw [hn3]; simp [HKL.out.1]); have P3 := hid_of h3.bel; have X3 : Hid (OS w2.drew.heap.size w2.drew w3 (.slice xo n0 xc) k) := hid_of h3; clear h3 hn3 hg3)
      | (refine step_appk rfl _ _ rfl (v := .slice (some ⟨w2.drew.heap.size, 0, none⟩) 0 0) (by rfl) ((os_empty w2.drew).alloc _) (vx := .slice a0 n0 c0) (by rfl) (HKD.out.at (Q2.out _ _)) (by have := HKL.out; simp; omega) ?_; intro xo n3 xc w3 hn3 h3 hg3; obtain rfl : n0 = n3 := (by rw [hn3]; simp [HKL.out.1]); have P3 := hid_of h3.bel; have X3 : Hid (OS w2.drew.heap.size w2.drew w3 (.slice xo n0 xc) k) := hid_of h3; have LZ3 : Hid (Lies w3 (.slice (some ⟨w2.heap.size + 1, 0, none⟩) 1 1) [0]) := hid_of (by have := (LZ.out (w2.drew.alloc (.cells #[] 5))).grown hg3 (by simp [Value.ownBlock]); simpa using this); clear h3 hn3 hg3)
      | (refine step_appk rfl _ _ rfl (v := .slice (some ⟨(w2.drew.alloc (.cells #[.int .u8 0] 5)).heap.size, 0, none⟩) 0 0) (by simp [Act.eval]) (os_empty (w2.drew.alloc (.cells #[.int .u8 0] 5))) (vx := .slice a0 n0 c0) (by rfl) (HKD.out.at (Q2.out _ _)) (by have := HKL.out; simp; omega) ?_; intro xo n3 xc w3 hn3 h3 hg3; obtain rfl : n0 = n3 := (by rw [hn3]; simp [HKL.out.1]); have P3 := hid_of ((Q1.out _).trans (h3.bel.mono (Q1.out _).size)); have X3 : Hid (OS (w2.drew.alloc (.cells #[.int .u8 0] 5)).heap.size (w2.drew.alloc (.cells #[.int .u8 0] 5)) w3 (.slice xo n0 xc) k) := hid_of h3; have LZ3 : Hid (Lies w3 (.slice (some ⟨w2.heap.size, 0, none⟩) 1 1) [0]) := hid_of ((LZ.out w2.drew).at h3.bel); clear h3 hn3 hg3)
      | (refine step_appk rfl _ _ rfl (v := .slice xo n0 xc) (by rfl) (X3.out.alloc _) (vx := .slice (some ⟨w3.heap.size, 0, none⟩) 1 1) (by rfl) (LZ.out w3) (by have := HKL.out; simp; omega) ?_; intro yo n6 yc w6 hn6 h6 hg6; have P6 := hid_of h6.bel; have L6 := hid_of (h6.lies (by have := HKL.out; simp; omega)); clear h6 hn6 hg6)
      | (refine step_appk rfl _ _ rfl (v := .slice xo n0 xc) (by rfl) X3.out (vx := .slice (some ⟨w2.heap.size + 1, 0, none⟩) 1 1) (by rfl) LZ3.out (by have := HKL.out; simp; omega) ?_; intro yo n6 yc w6 hn6 h6 hg6; have P6 := hid_of h6.bel; have L6 := hid_of (h6.lies (by have := HKL.out; simp; omega)); clear h6 hn6 hg6)
      | (refine step_appk rfl _ _ rfl (v := .slice xo n0 xc) (by rfl) X3.out (vx := .slice (some ⟨w2.heap.size, 0, none⟩) 1 1) (by rfl) LZ3.out (by have := HKL.out; simp; omega) ?_; intro yo n6 yc w6 hn6 h6 hg6; have P6 := hid_of ((Q1.out _).trans (h6.bel.mono (Q1.out _).size)); have L6 := hid_of (h6.lies (by have := HKL.out; simp; omega)); clear h6 hn6 hg6)
      | (go_at_call 12; ((with_reducible refine (TAG2.out w6 _ (HBD.out.trans (P6.out.mono HBD.out.size)) L6.out).mono ?_); (rintro e w7 ⟨g7, c7, rfl, h7, hb7⟩; have P7 := hid_of (P6.out.trans (hb7.mono P6.out.size)); have cv7 := CV.out w7 g7 c7 h7; clear h7 hb7))))
    all_goals go_wp2
    all_goals go_ret
    all_goals exact ⟨by simp, HBD.out.trans (P7.out.mono HBD.out.size)⟩
end Go.Proofs.YtdgihleekemnnaaDoor
