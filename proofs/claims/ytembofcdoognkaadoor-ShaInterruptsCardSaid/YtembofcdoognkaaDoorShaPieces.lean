/- A slice of slices of bytes that came in. -/
import Derived.Test.YtembofcdoognkaaDoorShaClonesW
import Derived.Deep.Strs
import Derived.ProofKit
namespace Go.Proofs.YtembofcdoognkaaDoor
open Go.RowKit Go.ChangeShapes Go.WideShapes

/-- What the walk is told of a slice of slices of bytes. -/
def IsPieces (w : World) (a : Option Addr) (len cap : Nat) (zs : List (List Int)) : Prop :=
  zs.length = len ∧ len ≤ cap ∧ cap ≤ 9223372036854775807 ∧ (∀ m ∈ zs, ∀ y ∈ m, 0 ≤ y ∧ y ≤ 255) ∧
  (0 < len → ∃ b o, a = some ⟨b, o, none⟩ ∧ b < w.heap.size ∧ ∀ i m, zs[i]? = some m → ∃ v, w.cell? ⟨b, o + i, none⟩ = some v ∧ Lies w v m)

theorem Tryd.cellsU8 : Tryd.prog.cellsOf 5 = 1 := by kernel_rfl
theorem Tryd.cellsBytes : Tryd.prog.cellsOf 22 = 1 := by kernel_rfl

theorem open_piece {H : Type} {enc : TypeId × Value → H} {w : World} {n : Nat} {cs : List Value} {y : DataW H × List MemPlace} (h : DataW.trod enc Tryd.prog w 0 (fun _ => true) true n 22 cs = some y) :
    ∃ (v : Value) (m : List Int), cs = [v] ∧ (∀ y ∈ m, 0 ≤ y ∧ y ≤ 255) ∧ Lies w v m := by
  rcases open_ints Tryd.underlying22 Tryd.underlying5 Tryd.cellsU8 h with ⟨e2, _⟩ | ⟨a, len, cap, zs, e2, _, hlc, hcm, hz, _, hcell, hwz⟩
  · exact ⟨_, [], e2, by simp, none, 0, rfl, by simp, by omega, fun h => by simp at h⟩
  · obtain ⟨l, _, hr, hl⟩ := IsRow.lies (w := w) (a := some a) (len := len) (cap := cap) (zs := zs) (.inr ⟨a, rfl, hlc, hcm, by simpa using hz, hcell, hwz⟩)
    exact ⟨_, l, e2, hr, hl⟩

theorem open_pieces {H : Type} {enc : TypeId × Value → H} {w : World} {fuel a0l cap : Nat} {a0 : Option Addr} {x : DataW H × List MemPlace} (h : DataW.trod enc Tryd.prog w 0 (fun _ => true) true fuel 26 [.slice a0 a0l cap] = some x) :
    ∃ zs, IsPieces w a0 a0l cap zs := by
  rcases Go.Deep.open_slice Tryd.underlying26 h with ⟨e, _⟩ | ⟨ad, len, cap', m, n, D, Pl, e, _, hlc, hcm, hm, _, hel⟩
  · simp at e
    obtain ⟨rfl, rfl, rfl⟩ := e
    exact ⟨[], rfl, by omega, by omega, by simp, fun h => by omega⟩
  · simp only [List.cons.injEq, Value.slice.injEq, and_true] at e
    obtain ⟨rfl, rfl, rfl⟩ := e
    simp only [if_true] at hm
    subst hm
    unfold maxLen at hcm
    by_cases h0 : a0l = 0
    · subst h0
      exact ⟨[], rfl, hlc, by omega, by simp, fun h => by omega⟩
    · have hex : ∀ i, i < a0l → ∃ y : Value × List Int, w.cell? (ad.add i) = some y.1 ∧ (∀ z ∈ y.2, 0 ≤ z ∧ z ≤ 255) ∧ Lies w y.1 y.2 := by
        intro i hi
        obtain ⟨cs', h1, h2⟩ := hel i (by omega)
        rw [Tryd.cellsBytes, Nat.mul_one] at h1
        obtain ⟨v, m, hv, r⟩ := open_piece h2
        obtain ⟨_, _, hc⟩ := World.cells?_some h1
        refine ⟨(v, m), ?_, r⟩
        have h3 := hc 0 (by omega)
        rw [hv] at h3
        have e : (ad.add i).add 0 = ad.add i := rfl
        rw [e] at h3
        exact h3
      have hsp : ad.spot = none := by
        obtain ⟨y, hc, _⟩ := hex 0 (by omega)
        exact World.cell?_spot (w := w) (a := ad) hc
      obtain ⟨b, o, sp⟩ := ad
      simp only at hsp
      subst hsp
      haveI : Inhabited (Value × List Int) := ⟨(undef, [])⟩
      obtain ⟨f, hf⟩ := Go.Deep.choose_lt hex
      have hget : ∀ i m, ((List.range a0l).map fun i => (f i).2)[i]? = some m → i < a0l ∧ m = (f i).2 := by
        intro i x hx
        simp only [List.getElem?_map] at hx
        rcases hr : (List.range a0l)[i]? with _ | q
        · rw [hr] at hx; cases hx
        · rw [hr] at hx
          obtain ⟨h1, h2⟩ := List.getElem?_eq_some_iff.1 hr
          simp at h1 h2
          subst h2
          simp at hx
          exact ⟨h1, hx.symm⟩
      refine ⟨(List.range a0l).map fun i => (f i).2, by simp, hlc, by omega, ?_, fun _ => ⟨b, o, rfl, ?_, ?_⟩⟩
      · intro m hm y hy
        obtain ⟨i, hi⟩ := List.getElem?_of_mem hm
        obtain ⟨h1, rfl⟩ := hget i m hi
        exact (hf i h1).2.1 y hy
      · have := (hf 0 (by omega)).1
        rw [Addr.add_mid] at this
        exact World.block_lt_of_cell? w _ this
      · intro i m hi
        obtain ⟨h1, rfl⟩ := hget i m hi
        have h2 := hf i h1
        rw [Addr.add_mid] at h2
        exact ⟨_, h2.1, h2.2.2⟩

theorem flat_snoc {zs : List (List Int)} {k : Nat} {m : List Int} (h : zs[k]? = some m) : (zs.take (k + 1)).flatten = (zs.take k).flatten ++ m := by
  rw [List.take_add_one, h]
  simp
theorem flat_le (zs : List (List Int)) (k : Nat) : ((zs.take k).flatten).length ≤ zs.flatten.length := by
  have h : zs.flatten = (zs.take k).flatten ++ (zs.drop k).flatten := by rw [← List.flatten_append, List.take_append_drop]
  rw [h, List.length_append]; omega

set_option maxRecDepth 100000 in
set_option maxHeartbeats 1600000 in
theorem joined_any (zs : List (List Int)) (ao : Option Addr) (len cap : Nat) (w : World) (h : IsPieces w ao len cap zs) :
    Calls Tryd.prog 13 #[.slice ao len cap] w fun e w' =>
      (len ≤ 2000 ∧ zs.flatten.length ≤ 2000 ∧ ∃ (ao : Option Addr) (n c : Nat), e = .returned (.tuple #[.slice ao n c, .bool true]) ∧ n = zs.flatten.length ∧ OS w.heap.size w w' (.slice ao n c) zs.flatten) ∨
      ((2000 < len ∨ 2000 < zs.flatten.length) ∧ e = .returned (.tuple #[.slice none 0 0, .bool false]) ∧ Below w.heap.size w w') := by
  obtain ⟨hl, hlc, hcm, hr, hp⟩ := h
  by_cases hlen : len ≤ 2000
  case neg =>
    go_enter Tryd.func13, Tryd.ntmps13
    go_wp2
    go_ret2
    exact .inr ⟨.inl (by omega), rfl, Below.refl _ _⟩
  obtain ⟨i0, hi, hz0, hz1, hz2⟩ := info_parts Tryd.infoU8
  have HP := hid_of hp
  have HR := hid_of hr
  have HL := hid_of hl
  clear hp hr hl
  go_enter Tryd.func13, Tryd.ntmps13
  go_wp2
  go_loopw [4, 5] (fun tv iv wr => ∃ (k n : Nat) (xo : Option Addr) (xc : Nat), k ≤ len ∧ iv = .int .i64 k ∧ tv = .slice xo n xc ∧ n ≤ 2000 ∧ Hid (n = ((zs.take k).flatten).length) ∧ Hid (OS w.heap.size w wr (.slice xo n xc) (zs.take k).flatten)) (fun _ iv _ => len - (intOf iv).toNat)
  case atStart => exact ⟨0, 0, none, 0, by omega, rfl, rfl, by omega, hid_of rfl, hid_of (os_nil w)⟩
  case round =>
    obtain ⟨k, n, xo, xc, hk, rfl, rfl, hn, hnl, hos⟩ := hrel
    by_cases hlt : k < len
    · obtain ⟨b, o, rfl, hbl, hcells⟩ := HP.out (by omega)
      obtain ⟨m, hm⟩ : ∃ m, zs[k]? = some m := ⟨_, List.getElem?_eq_getElem (by rw [HL.out]; exact hlt)⟩
      obtain ⟨v, hv, hlies⟩ := hcells k m hm
      have HFS := hid_of (flat_snoc hm)
      have HLE := hid_of (flat_le zs (k + 1))
      have HLW := hid_of hlies
      obtain ⟨av, cv, rfl, hlm2, hlm3, _⟩ := hlies
      obtain ⟨lm, hlm⟩ : ∃ lm, lm = m.length := ⟨_, rfl⟩
      rw [← hlm] at hv hlm2 HLW
      have HLM := hid_of hlm
      have hcell : ∀ w2 : World, w2.heap = wr.heap → w2.cell? ⟨b, o + k, none⟩ = some (.slice av lm cv) := fun w2 h2 => by
        rw [← hv]
        have h3 := hos.out.bel.cell (p := ⟨b, o + k, none⟩) hbl
        rw [← h3]
        unfold World.cell?
        rw [h2]
      have hcell1 := hcell wr rfl
      clear hcells hv hm hcell hlm
      by_cases hfit : n + lm ≤ 2000
      · have HLD := hid_of (HLW.out.at hos.out.bel)
        have HNL := hid_of hnl.out.symm
        go_wp2_with (at_builtin; ((refine wpList_app rfl _ _ rfl (v := .slice xo n xc) rfl hos.out (vx := .slice av lm cv) rfl HLD.out (by rw [HNL.out, ← HLM.out]; omega) ?_); intro xo2 n2 xc2 w2 hn2 h2; obtain rfl : n2 = n + lm := (by rw [hn2, HNL.out, HLM.out]); have H2 := hid_of h2; clear hn2 h2))
        go_roundw
        case rel => exact ⟨k + 1, n + lm, xo2, xc2, by omega, by go_num, rfl, by omega, hid_of (by rw [HFS.out, List.length_append, HNL.out, ← HLM.out]), hid_of (by rw [HFS.out]; exact H2.out)⟩
        case measure => simp [intOf]; omega
      · go_wp2
        go_ret2
        refine .inr ⟨.inr ?_, rfl, hos.out.bel⟩
        have h1 := HLE.out
        rw [HFS.out, List.length_append, ← hnl.out, ← HLM.out] at h1
        omega
    · obtain rfl : k = len := by omega
      have hfull : zs.take k = zs := List.take_of_length_le (by rw [HL.out]; exact Nat.le_refl _)
      have HF := hid_of hfull
      clear hfull hlt
      go_wp2
      go_ret2
      refine .inl ⟨hlen, ?_, xo, n, xc, rfl, ?_, ?_⟩
      · have h1 := hnl.out; rw [HF.out] at h1; omega
      · have h1 := hnl.out; rw [HF.out] at h1; exact h1
      · have h1 := hos.out; rw [HF.out] at h1; exact h1
end Go.Proofs.YtembofcdoognkaaDoor
