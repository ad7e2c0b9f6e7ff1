/- The reference's Tag of package keyed. Bounds on the sizes. -/
import Derived.Test.YtogfgcihhnblkaaDoorKeyRef
namespace Go.Proofs.YtogfgcihhnblkaaDoor
open Go.RowKit

/-- append of a string. -/
theorem wpList_apps {ops : Array Oper} {rest : List Oper} {o : Oper} {a : Act} {Q : Exit → Act → World → Prop} (hgd : o.guard = none) (s x : Operand)
    (ho : o.op = .call { callee := .builtin .append, args := #[s, x], argTypes := #[22, 9] })
    {B : Nat} {w0 w : World} {v : Value} {l : List Int} (hv : a.eval s = v) (H : OS B w0 w v l) {m : List Int} (hx : a.eval x = .string (strOfNums m)) (hm : ∀ y ∈ m, 0 ≤ y ∧ y ≤ 255) (hl : l.length + m.length ≤ 1000000000)
    (h : ∀ (ao : Option Addr) (n cap : Nat) (w' : World), n = l.length + m.length → OS B w0 w' (.slice ao n cap) (l ++ m) → wpList Tryd.prog ops Q rest (a.put o.dst (.slice ao n cap)) w') :
    wpList Tryd.prog ops Q (o :: rest) a w := by
  obtain ⟨i0, hi, hz0, hz1, hz2⟩ := info_parts Tryd.infoU8
  have hs : (strOfNums m).size = m.length := by simp [strOfNums, ByteArray.size]
  have hsrc : Src Tryd.prog 1 9 (.string (strOfNums m)) m.length (bs m) w := by
    have := Src.ofString (P := Tryd.prog) w Tryd.underlying9 (strOfNums m)
    rw [hs] at this
    have e : byteCells (strOfNums m) = bs (strBytes (strOfNums m)) := by simp [byteCells, bs, strBytes]
    rw [e, strOfNums_bytes m hm] at this
    exact this
  refine wpList_append_src _ hgd s x 22 9 ho B 5 i0 (.int .u8 0) 1 1 Tryd.underlying22 hi hz0 hz1 hz2 rfl (by decide) v l.length (bs l) hv H.own _ m.length (bs m) hx hsrc (by unfold maxLen; omega) (by omega) H.size ?_
  intro v2 w2 hown hg _ _
  have H2 := H.app hown rfl hg
  obtain ⟨ao, cap, rfl⟩ := own_shape hown
  exact h ao _ cap w2 rfl (by rw [← List.length_append] at H2 ⊢; exact H2)

set_option maxRecDepth 100000 in
theorem rtag_any (k m : List Int) (ao bo : Option Addr) (n cap mm bc : Nat) (w : World) (hkn : k.length = n) (hmn : m.length = mm) (hL : Lies w (.slice ao n cap) k) (hM : Lies w (.slice bo mm bc) m) (hk : ∀ y ∈ k, 0 ≤ y ∧ y ≤ 255) (hm : ∀ y ∈ m, 0 ≤ y ∧ y ≤ 255) (hn : n ≤ 2200) (hn2 : mm ≤ 2200) :
    Calls Tryd.prog 13 #[.slice ao n cap, .slice bo mm bc] w fun e w' => ∃ g c, e = .returned (.slice (some ⟨g, 0, none⟩) 32 c) ∧ Lies w' (.slice (some ⟨g, 0, none⟩) 32 c) (hmac k m) ∧ Below w.heap.size w w' := by
  have HL := hid_of hL
  have HM := hid_of hM
  have HK := hid_of hk
  have HMR := hid_of hm
  have HKN := hid_of hkn
  have HMN := hid_of hmn
  have HN := hid_of hn
  have HN2 := hid_of hn2
  obtain ⟨I, hI⟩ : ∃ I, I = xr 54 (keyBlock k) := ⟨_, rfl⟩
  obtain ⟨O, hO⟩ : ∃ O, O = xr 92 (keyBlock k) := ⟨_, rfl⟩
  obtain ⟨D, hD⟩ : ∃ D, D = digest (I ++ m) := ⟨_, rfl⟩
  obtain ⟨E, hE⟩ : ∃ E, E = digest (O ++ D) := ⟨_, rfl⟩
  have HI := hid_of hI
  have HO := hid_of hO
  have HD := hid_of hD
  have HE := hid_of hE
  have HEH : Hid (hmac k m = E) := hid_of (by rw [hE, hD, hI, hO]; rfl)
  have HIL : Hid (I.length = 64) := hid_of (by rw [hI, xr_length]; exact keyBlock_length k)
  have HOL : Hid (O.length = 64) := hid_of (by rw [hO, xr_length]; exact keyBlock_length k)
  have HIR : Hid (∀ y ∈ I, 0 ≤ y ∧ y ≤ 255) := hid_of (by rw [hI]; exact xr_rng 54 _ (by omega) (keyBlock_rng k hk))
  have HOR : Hid (∀ y ∈ O, 0 ≤ y ∧ y ≤ 255) := hid_of (by rw [hO]; exact xr_rng 92 _ (by omega) (keyBlock_rng k hk))
  have HDR : Hid (∀ y ∈ D, 0 ≤ y ∧ y ≤ 255) := hid_of (by rw [hD]; exact digest_rng _)
  have HDL : Hid (D.length = 32) := hid_of (by rw [hD]; rfl)
  have HER : Hid (∀ y ∈ E, 0 ≤ y ∧ y ≤ 255) := hid_of (by rw [hE]; exact digest_rng _)
  have HEL : Hid (E.length = 32) := hid_of (by rw [hE]; rfl)
  have HIM : Hid (∀ y ∈ I ++ m, 0 ≤ y ∧ y ≤ 255) := hid_of (fun y hy => (List.mem_append.1 hy).elim (HIR.out y) (HMR.out y))
  have HOD : Hid (∀ y ∈ O ++ D, 0 ≤ y ∧ y ≤ 255) := hid_of (fun y hy => (List.mem_append.1 hy).elim (HOR.out y) (HDR.out y))
  clear hL hM hk hm hkn hmn hn hn2 hI hO hD hE
  go_enter Tryd.func13, Tryd.ntmps13
  go_wp2_with (first
    | (go_at_call 29; (first
        | ((with_reducible refine (rpad_any k ao n cap 54 w HKN.out HL.out HK.out (by omega) HN.out).mono ?_); (rw [← HI.out]; rintro e w1 ⟨y1, c1, rfl, h1⟩; have H1 := hid_of h1; clear h1))
        | ((with_reducible refine (rpad_any k ao n cap 92 w3 HKN.out (HL.out.at HB3.out) HK.out (by omega) HN.out).mono ?_); (rw [← HO.out]; rintro e w4 ⟨y4, c4, rfl, h4⟩; have H4 := hid_of h4; clear h4))))
    | (go_at_call 28; (first
        | ((with_reducible refine (refSum_any (I ++ m) x2 n2 c2 w2 (by rw [HL2.out]) (OS.lies H2.out (by rw [HL2.out, HS2.out]; have := HN2.out; omega)) HIM.out (by have := HN2.out; have := HS2.out; omega)).mono ?_); (rw [← HD.out]; rintro e w3 ⟨rfl, hb3⟩; have HB3 := hid_of (H2.out.bel.trans (hb3.mono H2.out.size)); clear hb3))
        | ((with_reducible refine (refSum_any (O ++ D) x5 n5 c5 w5 (by rw [HL5.out]) (OS.lies H5.out (by rw [HL5.out, HS5.out]; omega)) HOD.out (by have := HS5.out; omega)).mono ?_); (rw [← HE.out]; rintro e w6 ⟨rfl, hb6⟩; have HB6 := hid_of (HB3.out.trans ((H5.out.bel.trans (hb6.mono H5.out.size)).mono HB3.out.size)); clear hb6))))
    | (at_builtin; (first
        | ((refine wpList_app rfl _ _ rfl (v := .slice y1 64 c1) rfl H1.out (vx := .slice bo mm bc) rfl (HM.out.at H1.out.bel) (by rw [HIL.out, HMN.out]; have := HN2.out; omega) ?_); intro x2 n2 c2 w2 hn2 h2; have HL2 : Hid ((I ++ m).length = n2) := hid_of (by rw [List.length_append, hn2]); rw [HIL.out, HMN.out] at hn2; have HS2 := hid_of hn2; have H2 := hid_of h2; clear h2 hn2)
        | ((refine wpList_apps rfl _ _ rfl (v := .slice y4 64 c4) rfl H4.out (m := D) rfl HDR.out (by rw [HOL.out, HDL.out]; omega) ?_); intro x5 n5 c5 w5 hn5 h5; have HL5 : Hid ((O ++ D).length = n5) := hid_of (by rw [List.length_append, hn5]); rw [HOL.out, HDL.out] at hn5; have HS5 := hid_of hn5; have H5 := hid_of h5; clear h5 hn5)))
    | (refine wpList_bytes _ rfl 9 (.tmp 15) rfl Tryd.underlying9 Tryd.underlying22 Tryd.underlying5 E HER.out (by rw [HEL.out]; unfold maxLen; omega) rfl ?_; intro cap7 w7 hL7 hb7; rw [HEL.out] at hL7 ⊢; have HL7 := hid_of hL7; have HB7 := hid_of (HB6.out.trans (hb7.mono HB6.out.size)); clear hL7 hb7))
  go_ret
  exact ⟨_, _, rfl, by rw [HEH.out]; exact HL7.out, HB7.out⟩
end Go.Proofs.YtogfgcihhnblkaaDoor
