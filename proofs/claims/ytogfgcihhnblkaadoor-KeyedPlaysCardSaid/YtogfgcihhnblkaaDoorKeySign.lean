/- Sign, Verify, New of the Module of package keyed. Bounds on the sizes. -/
import Derived.Test.YtogfgcihhnblkaaDoorKeyMod
import Derived.Test.YtogfgcihhnblkaaDoorAppOwn
import Derived.OwnWalk
import Derived.WalkLawsBesides
namespace Go.Proofs.YtogfgcihhnblkaaDoor
open Go.RowKit

theorem sign_neg {B : Nat} (b : Nat) (p h x : Int) (u : Value) (k : List Int) (w : World) (_hm : Mst B w b k p h) (hx : x < 0) :
    Calls Tryd.prog 20 #[.pointer (some ⟨b, 0, none⟩), .int .i64 x, u] w fun e w' => e = .returned (.tuple #[.slice none 0 0, .int .i64 1]) ∧ w = w' := by
  have hd : decide (x < 0) = true := by simp; exact hx
  go_enter Tryd.func20, Tryd.ntmps20
  go_wp2
  go_ret2
  exact ⟨rfl, rfl⟩
theorem sign_stale {B : Nat} (b : Nat) (p h x : Int) (u : Value) (k : List Int) (w : World) (hm : Mst B w b k p h) (hx : ¬ x < 0) (hs : x < h) :
    Calls Tryd.prog 20 #[.pointer (some ⟨b, 0, none⟩), .int .i64 x, u] w fun e w' => e = .returned (.tuple #[.slice none 0 0, .int .i64 11]) ∧ w = w' := by
  obtain ⟨hB, g, n, hkn, hr, hne, hBg, hl⟩ := hm
  have c : w.cell? ⟨b, 2, none⟩ = some (.int .i64 h) := cell_of_row _ _ 2 _ _ _ hr
  clear hB hBg hkn hr hne hl
  have hd : decide (x < 0) = false := by simp; omega
  have hd2 : decide (x < h) = true := by simp; exact hs
  go_enter Tryd.func20, Tryd.ntmps20
  go_wp2
  go_ret2
  exact ⟨rfl, rfl⟩
theorem sign_ok {B : Nat} (b : Nat) (k m : List Int) (p h x : Int) (u : Value) (w : World) (hm : Mst B w b k p h) (hx0 : ¬ x < 0) (hs : ¬ x < h) (hk : ∀ y ∈ k, 0 ≤ y ∧ y ≤ 255) (hu : Lies w u m) (hmr : ∀ y ∈ m, 0 ≤ y ∧ y ≤ 255) (hp : R64 p) (hx : R64 x) (hG : Glob w) (hn : k.length ≤ 80000000000) (hn2 : m.length ≤ 80000000000) :
    Calls Tryd.prog 20 #[.pointer (some ⟨b, 0, none⟩), .int .i64 x, u] w fun e w' => ∃ g cap, e = .returned (.tuple #[.slice (some ⟨g, 0, none⟩) 32 cap, .int .i64 0]) ∧ w.heap.size ≤ g ∧ Lies w' (.slice (some ⟨g, 0, none⟩) 32 cap) (hmac (derive k p x) m) ∧ Below w.heap.size w w' := by
  have HT := hid_of (mtag_any b k m p h p x u w hm hk hu hmr hp hx hG hn hn2)
  obtain ⟨hB, g, n, hkn, hr, hne, hBg, hl⟩ := hm
  have c : w.cell? ⟨b, 2, none⟩ = some (.int .i64 h) := cell_of_row _ _ 2 _ _ _ hr
  have c1 : w.cell? ⟨b, 1, none⟩ = some (.int .i64 p) := cell_of_row _ _ 1 _ _ _ hr
  clear hB hBg hkn hr hne hl hk hu hmr hp hx hG hn hn2
  have hd : decide (x < 0) = false := by simp; omega
  have hd2 : decide (x < h) = false := by simp; omega
  go_enter Tryd.func20, Tryd.ntmps20
  go_wp2_with (first
    | (go_at_call 35; refine HT.out.mono ?_; rintro e w2 ⟨g2, c2, rfl, hg2, hl2, hb2⟩; have HG2 := hid_of hg2; have HL2 := hid_of hl2; have HB2 := hid_of hb2; clear hg2 hl2 hb2))
  go_ret2
  exact ⟨_, _, rfl, HG2.out, HL2.out, HB2.out⟩

theorem conv_lies {w : World} {v : Value} {l : List Int} (h : Lies w v l) : (convert 22 9 v).run Tryd.prog w = .ok (.string (strOfNums l)) w := by
  obtain ⟨ao, cap, rfl, h1, h2, h3⟩ := h
  refine run_str w _ _ 5 Tryd.underlying22 Tryd.underlying5 Tryd.underlying9 ao l cap (fun h0 => ?_)
  obtain ⟨g, o, q1, q2, q3⟩ := h3 h0
  exact ⟨_, q1, fun j u hu => by rw [Addr.add_mid]; exact q3 j u hu⟩
theorem strs_eq {a b : List Int} (ha : ∀ y ∈ a, 0 ≤ y ∧ y ≤ 255) (hb : ∀ y ∈ b, 0 ≤ y ∧ y ≤ 255) : (strOfNums a = strOfNums b) ↔ a = b := by
  constructor
  · intro h
    have h2 : (strOfNums a).data.toList.map (fun b => (b.toNat : Int)) = (strOfNums b).data.toList.map (fun b => (b.toNat : Int)) := by rw [h]
    rw [strOfNums_data, strOfNums_data, List.map_map, List.map_map] at h2
    have e : ∀ l : List Int, (∀ y ∈ l, 0 ≤ y ∧ y ≤ 255) → l.map ((fun b : UInt8 => (b.toNat : Int)) ∘ fun n => UInt8.ofNat n.toNat) = l := fun l hl => by
      refine (List.map_congr_left fun y hy => ?_).trans (List.map_id l)
      have := hl y hy
      simp
      omega
    rw [e a ha, e b hb] at h2
    exact h2
  · rintro rfl; rfl
theorem equal_any (v u : Value) (a b : List Int) (w : World) (hv : Lies w v a) (hu : Lies w u b) (ha : ∀ y ∈ a, 0 ≤ y ∧ y ≤ 255) (hb : ∀ y ∈ b, 0 ≤ y ∧ y ≤ 255) :
    Calls Tryd.prog 36 #[v, u] w fun e w' => e = .returned (.bool (decide (a = b))) ∧ w = w' := by
  have c1 := conv_lies hv
  have c2 := conv_lies hu
  obtain ⟨r, hr⟩ : ∃ r, r = decide (a = b) := ⟨_, rfl⟩
  rw [← hr]
  have HR := hid_of hr
  have HA := hid_of ha
  have HB := hid_of hb
  clear hv hu ha hb hr
  go_enter Tryd.func36, Tryd.ntmps36
  go_wp2
  go_ret
  refine ⟨?_, rfl⟩
  have e : ((strOfNums a).toList == (strOfNums b).toList) = r := by
    rw [HR.out, ByteArray.toList_eq, ByteArray.toList_eq, Bool.eq_iff_iff, beq_iff_eq, decide_eq_true_iff, ← strs_eq HA.out HB.out]
    constructor
    · intro h
      cases hx : strOfNums a with
      | mk da =>
        cases hy : strOfNums b with
        | mk db =>
          rw [hx, hy] at h
          simp at h
          rw [h]
    · intro h; rw [h]
  show Ending.returned (.bool ((strOfNums a).toList == (strOfNums b).toList)) = _
  rw [e]

set_option maxRecDepth 100000 in
theorem verify_any {B : Nat} (b : Nat) (k m t : List Int) (p h q x : Int) (u v : Value) (w : World) (hm : Mst B w b k p h) (hk : ∀ y ∈ k, 0 ≤ y ∧ y ≤ 255) (hu : Lies w u m) (hmr : ∀ y ∈ m, 0 ≤ y ∧ y ≤ 255) (hv : Lies w v t) (htr : ∀ y ∈ t, 0 ≤ y ∧ y ≤ 255) (hq : R64 q) (hx : R64 x) (hG : Glob w) (hn : k.length ≤ 80000000000) (hn2 : m.length ≤ 80000000000) :
    Calls Tryd.prog 22 #[.pointer (some ⟨b, 0, none⟩), .int .i64 q, .int .i64 x, u, v] w fun e w' => e = .returned (.bool (decide (t = hmac (derive k q x) m))) ∧ Below w.heap.size w w' := by
  have HT := hid_of (mtag_any b k m p h q x u w hm hk hu hmr hq hx hG hn hn2)
  have HV := hid_of hv
  have HTR := hid_of htr
  obtain ⟨r, hr⟩ : ∃ r, r = decide (t = hmac (derive k q x) m) := ⟨_, rfl⟩
  rw [← hr]
  have HR := hid_of hr
  clear hm hk hu hmr hv htr hq hx hG hn hn2 hr
  go_enter Tryd.func22, Tryd.ntmps22
  go_wp2_with (first
    | (go_at_call 35; refine HT.out.mono ?_; rintro e w2 ⟨g2, c2, rfl, hg2, hl2, hb2⟩; have HL2 := hid_of hl2; have HB2 := hid_of hb2; clear hg2 hl2 hb2)
    | (go_at_call 36; refine (equal_any v (.slice (some ⟨g2, 0, none⟩) 32 c2) t (hmac (derive k q x) m) w2 (HV.out.later HB2.out (Nat.le_refl _)) HL2.out HTR.out (hmac_rng _ _)).mono ?_; rw [← HR.out]; rintro e w3 ⟨rfl, rfl⟩))
  go_ret
  exact ⟨rfl, HB2.out⟩

set_option maxRecDepth 100000 in
set_option maxHeartbeats 400000 in
theorem new_module (v : Value) (k : List Int) (p : Int) (w : World) (hv : Lies w v k) (hn : k.length ≤ 80000000000) :
    Calls Tryd.prog 16 #[v, .int .i64 p] w fun e w' => ∃ b, e = .returned (.pointer (some ⟨b, 0, none⟩)) ∧ w.heap.size ≤ b ∧ Mst w.heap.size w' b k p 0 ∧ Below w.heap.size w w' := by
  obtain ⟨ao, cap, rfl, h1, h2, h3⟩ := hv
  obtain ⟨i0, hi, hz0, hz1, hz2⟩ := info_parts Wr.Tryd.infoU8
  obtain ⟨n, hnn⟩ : ∃ n, k.length = n := ⟨_, rfl⟩
  rw [hnn] at h1 h3 hn ⊢
  have HNN := hid_of hnn
  have H3 := hid_of h3
  clear hnn h3
  go_enter Tryd.func16, Tryd.ntmps16
  go_wp2_with (first | (at_make; refine wpList_make_full _ rfl _ _ 22 rfl w.heap.size 5 i0 (.int .u8 0) 1 Tryd.underlying22 hi hz0 hz1 .i64 .i64 n n n rfl rfl rfl rfl ?b2 ?b3 ?b4 ?_))
  case b2 => rw [hz2]; omega
  case b3 => unfold maxLen; omega
  case b4 => exact Nat.le_refl _
  intro w1 hown hgrow
  have hH := Wr.made_row hown
  have hb : Below w.heap.size w w1 := (Below.refl _ _).grown hgrow (Nat.le_refl _) (fun k h => by cases h)
  clear hown hgrow
  have hcells : Hid (0 < (bs k).length → ∃ ad, ao = some ad ∧ ∀ j v, (bs k)[j]? = some v → w1.cell? (ad.add j) = some v) := by
    intro h0
    obtain ⟨g, o, ha, hlt, hc⟩ := H3.out (by have := HNN.out; simp [bs] at h0; omega)
    refine ⟨_, ha, fun j v hv => ?_⟩
    rw [Addr.add_mid, hb.cell (p := ⟨g, o + j, none⟩) hlt]
    exact hc j v hv
  have HB1 := hid_of hb
  have HH := hid_of hH
  clear hb hH
  go_wp2_with (with_reducible refine wpList_copy_splice rfl _ _ 22 22 rfl 5 Tryd.underlying22 Tryd.sizeU8 (some ⟨w.heap.size, 0, none⟩) ao n n n cap rfl rfl w.heap.size 0 (List.replicate n (Value.int .u8 0)) 5 HH.out (bs k) ?hq ?hp ?hf ?h1 w.heap.size w HB1.out (Nat.le_refl _) ?_)
  case hq => rw [bs_length, HNN.out]; exact (Nat.min_self n).symm
  case hp => exact hcells.out
  case hf => have := HNN.out; simp [bs]; omega
  case h1 => exact bs_one k
  intro w2 HG2 hB2
  have HB2 := hid_of hB2
  clear hB2
  go_wp2
  go_ret
  have e := HNN.out
  subst e
  have hrow := (Below.heap_alloc w2 (.cells #[.slice (some ⟨w.heap.size, 0, none⟩) k.length k.length, .int .i64 p, .int .i64 0] 59) _ (lt_of_block HG2.out)).trans HG2.out
  refine ⟨w2.heap.size, rfl, HB2.out.size, ⟨HB2.out.size, w.heap.size, k.length, rfl, heap_alloc_new _ _, Nat.ne_of_lt (lt_of_block HG2.out), Nat.le_refl _, ?_⟩, HB2.out.alloc HB2.out.size _⟩
  refine ⟨_, _, rfl, Nat.le_refl _, by omega, fun _ => ⟨_, 0, rfl, lt_of_block hrow, fun j u hu => ?_⟩⟩
  rw [Nat.zero_add, cell_of_row _ _ _ _ _ _ hrow]
  have es : splice (List.replicate k.length (Value.int .u8 0)) 0 (bs k) = bs k := by simp [splice, bs]
  rw [es]
  simpa using hu
end Go.Proofs.YtogfgcihhnblkaaDoor
