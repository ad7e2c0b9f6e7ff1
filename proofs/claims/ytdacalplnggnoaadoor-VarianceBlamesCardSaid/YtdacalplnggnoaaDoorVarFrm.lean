/- hasSize, sumSign, hasForm. No condition. -/
import Derived.Test.YtdacalplnggnoaaDoorVarSgn
import Derived.Deep.MidRow
namespace Go.Proofs.YtdacalplnggnoaaDoor
open Go.RowKit

def sizeI (sr kd : Int) : Bool := if sr = 4 then true else if sr = 0 then decide (kd = 4 ∨ kd = 5 ∨ kd = 10) else false
def sumI (kd : Int) (np : Nat) (pk pl ph : Int) : Int := if kd = 5 ∧ np = 1 then (if pk = 2 ∧ pl < 0 ∨ pk = 3 ∧ ph > 0 then 61 else numS pk) else 61
theorem sizeB_eq (t : Ex) : sizeB t = sizeI t.sr t.kd := rfl
theorem sumS_eq (t : Ex) : sumS t = sumI t.kd t.np t.pk t.pl t.ph := rfl
/-- The table as it was laid. -/
def Gl (w : World) : Prop := 0 < w.heap.size ∧ ∀ k, k < 38 → w.cell? ⟨0, k, none⟩ = some (.string (sg k))
theorem Gl.at {w w' : World} (h : Gl w) (hb : Below w.heap.size w w') : Gl w' :=
  ⟨Nat.lt_of_lt_of_le h.1 hb.size, fun k hk => (hb.cell (p := ⟨0, k, none⟩) h.1).trans (h.2 k hk)⟩

set_option maxRecDepth 100000 in
set_option maxHeartbeats 1600000 in
theorem size_any (sr kd : Int) (v2 v3 v4 v5 v6 : Value) (w : World) : Calls Tryd.prog 30 #[.agg #[.int .i64 sr, .int .i64 kd, v2, v3, v4, v5, v6]] w (BooP (sizeI sr kd) w) := by
  obtain ⟨r, hr⟩ : ∃ r, r = sizeI sr kd := ⟨_, rfl⟩
  rw [← hr]
  unfold sizeI at hr
  by_cases h1 : sr = 4
  · rw [if_pos h1] at hr
    subst h1 hr
    go_enter Tryd.func30, Tryd.ntmps30
    go_wp2
    go_ret
    exact ⟨rfl, bel_alloc _ _⟩
  rw [if_neg h1] at hr
  have e1 := ne_f h1
  clear h1
  by_cases h2 : sr = 0
  · rw [if_pos h2] at hr
    subst h2
    by_cases h4 : kd = 4
    · rw [decide_eq_true (.inl h4)] at hr
      subst h4 hr
      go_enter Tryd.func30, Tryd.ntmps30
      go_wp2
      go_ret
      exact ⟨rfl, bel_alloc _ _⟩
    by_cases h5 : kd = 5
    · rw [decide_eq_true (.inr (.inl h5))] at hr
      subst h5 hr
      go_enter Tryd.func30, Tryd.ntmps30
      go_wp2
      go_ret
      exact ⟨rfl, bel_alloc _ _⟩
    have e4 := ne_f h4
    have e5 := ne_f h5
    have HR : Hid (r = (kd == 10)) := hid_of (by rw [hr]; simp [h4, h5]; rfl)
    clear h4 h5 hr
    go_enter Tryd.func30, Tryd.ntmps30
    go_wp2
    go_ret
    exact ⟨by rw [HR.out] <;> rfl, bel_alloc _ _⟩
  rw [if_neg h2] at hr
  have e2 := ne_f h2
  clear h2
  subst hr
  go_enter Tryd.func30, Tryd.ntmps30
  go_wp2
  go_ret
  exact ⟨rfl, bel_alloc _ _⟩
set_option maxRecDepth 100000 in
set_option maxHeartbeats 1600000 in
theorem sum_any (kd : Int) (np cp : Nat) (ap : Option Addr) (pk pl ph : Int) (v1 v2 v3 v5 : Value) (w : World) (H : PF w (.slice ap np cp) np pk pl ph) : Calls Tryd.prog 29 #[.agg #[.int .i64 kd, v1, v2, v3, .slice ap np cp, v5]] w (IntP .u8 (sumI kd np pk pl ph) w) := by
  obtain ⟨r, hr⟩ : ∃ r, r = sumI kd np pk pl ph := ⟨_, rfl⟩
  rw [← hr]
  unfold sumI at hr
  by_cases h1 : kd = 5
  case neg =>
    rw [if_neg (fun h => h1 h.1)] at hr
    have e1 : (kd != 5) = true := bne_iff_ne.2 h1
    clear h1
    subst hr
    go_enter Tryd.func29, Tryd.ntmps29
    go_wp2
    go_ret
    exact ⟨rfl, bel_alloc _ _⟩
  subst h1
  by_cases h2 : np = 1
  case neg =>
    rw [if_neg (fun h => h2 h.2)] at hr
    have e1 : ((np : Int) != 1) = true := bne_iff_ne.2 (by omega)
    clear h2
    subst hr
    go_enter Tryd.func29, Tryd.ntmps29
    go_wp2
    go_ret
    exact ⟨rfl, bel_alloc _ _⟩
  rw [if_pos ⟨rfl, h2⟩] at hr
  have e1 : ((np : Int) != 1) = false := by subst h2; rfl
  obtain ⟨l, hrd, hll, hl0⟩ := H
  obtain ⟨t, ht⟩ : ∃ t, l[0]? = some t := ⟨_, List.getElem?_eq_getElem (by omega)⟩
  obtain ⟨a1, n1, k1, a2, n2, k2, a3, n3, k3, rfl⟩ := hl0 t ht
  obtain ⟨g, o, rfl, c0, c1, c2, c3, c4, c5⟩ := (hrd.at (bel_alloc w (.cells #[.int .i64 5, v1, v2, v3, .slice ap np cp, v5] 31))).get ht
  rw [Nat.zero_mul, Nat.add_zero] at c0 c1 c2 c3 c4 c5
  simp only at c0 c1 c2 c3 c4 c5
  have hnp : 0 < np := by omega
  have NU := hid_of (fun wz => num_any pk wz)
  clear ht hrd hll hl0 h2
  by_cases h3 : pk = 2
  · subst h3
    by_cases h4 : pl < 0
    · have d4 := decide_eq_true h4
      rw [if_pos (.inl ⟨rfl, h4⟩)] at hr
      clear h4
      subst hr
      go_enter Tryd.func29, Tryd.ntmps29
      go_wp2
      go_ret
      exact ⟨rfl, bel_alloc2 _ _ _⟩
    · have d4 := decide_eq_false h4
      rw [if_neg (by omega)] at hr
      rw [← hr] at NU
      clear h4 hr
      go_enter Tryd.func29, Tryd.ntmps29
      go_wp2_with (go_at_call 28; ((with_reducible refine (NU.out _).mono ?_); (rintro e w2 ⟨rfl, rfl⟩)))
      go_ret
      exact ⟨rfl, bel_alloc2 _ _ _⟩
  have e3 := ne_f h3
  by_cases h5 : pk = 3
  · subst h5
    by_cases h4 : ph > 0
    · have d4 := decide_eq_true h4
      rw [if_pos (.inr ⟨rfl, h4⟩)] at hr
      clear h4 h3
      subst hr
      go_enter Tryd.func29, Tryd.ntmps29
      go_wp2
      go_ret
      exact ⟨rfl, bel_alloc2 _ _ _⟩
    · have d4 := decide_eq_false h4
      rw [if_neg (by omega)] at hr
      rw [← hr] at NU
      clear h4 h3 hr
      go_enter Tryd.func29, Tryd.ntmps29
      go_wp2_with (go_at_call 28; ((with_reducible refine (NU.out _).mono ?_); (rintro e w2 ⟨rfl, rfl⟩)))
      go_ret
      exact ⟨rfl, bel_alloc2 _ _ _⟩
  have e5 := ne_f h5
  rw [if_neg (by omega)] at hr
  rw [← hr] at NU
  clear h3 h5 hr
  go_enter Tryd.func29, Tryd.ntmps29
  go_wp2_with (go_at_call 28; ((with_reducible refine (NU.out _).mono ?_); (rintro e w2 ⟨rfl, rfl⟩)))
  go_ret
  exact ⟨rfl, bel_alloc2 _ _ _⟩
set_option maxRecDepth 100000 in
set_option maxHeartbeats 1600000 in
theorem form_any (g o : Nat) (x : XX) (t : Ex) (w : World) (HG : Gl w) (H : XAt w g o x t) : Calls Tryd.prog 22 #[.pointer (some ⟨g, o, none⟩)] w (BooP (formB t) w) := by
  obtain ⟨op, sr, kd, lo, hi, vn, ap, np, cp, vr, n, vt, pt, ak, nk, ck, rfl, hop, -, -, -, -, -, hnk, ro, -, -, -, -, -, HK, -, c0, c1, c2, c3, c4, c5, c6, c7, c8, c9, c10, c11⟩ := H.open
  obtain ⟨-, hk2, hk3⟩ := HK.len
  obtain ⟨r, hr⟩ : ∃ r, r = formB t := ⟨_, rfl⟩
  rw [← hr]
  unfold formB at hr
  rw [← hop, ← hnk] at hr
  clear HK hop hnk H
  by_cases h1 : op = 23
  · rw [if_pos (.inl h1)] at hr
    subst h1 hr
    go_enter Tryd.func22, Tryd.ntmps22
    go_wp2
    go_ret
    exact ⟨rfl, Below.refl _ _⟩
  by_cases h2 : op = 25
  · rw [if_pos (.inr h2)] at hr
    subst h2 hr
    go_enter Tryd.func22, Tryd.ntmps22
    go_wp2
    go_ret
    exact ⟨rfl, Below.refl _ _⟩
  rw [if_neg (by omega)] at hr
  have e1 := ne_f h1
  have e2 := ne_f h2
  by_cases h3 : op = 24
  · rw [if_pos h3] at hr
    subst h3
    have HR : Hid (r = ((nk : Int) % 2 == 0)) := hid_of (by rw [hr, Bool.eq_iff_iff]; simp; omega)
    clear h1 h2 hr
    go_enter Tryd.func22, Tryd.ntmps22
    go_wp2
    go_ret
    exact ⟨by rw [HR.out] <;> rfl, Below.refl _ _⟩
  rw [if_neg h3] at hr
  have e3 := ne_f h3
  by_cases h4 : 1 ≤ op
  case neg =>
    rw [decide_eq_false (by omega), Bool.false_and] at hr
    have d4 : decide (op ≥ 1) = false := decide_eq_false h4
    clear h1 h2 h3 h4 ro
    subst hr
    go_enter Tryd.func22, Tryd.ntmps22
    go_wp2
    go_quiet (fail)
    go_wp2
    go_ret
    exact ⟨rfl, bel_drewN (Below.refl _ _) _⟩
  by_cases h5 : op ≤ 37
  case neg =>
    rw [decide_eq_false (by omega), Bool.false_and] at hr
    have d4 : decide (op ≥ 1) = true := decide_eq_true h4
    have d5 : decide (op ≤ 37) = false := decide_eq_false h5
    clear h1 h2 h3 h4 h5 ro
    subst hr
    go_enter Tryd.func22, Tryd.ntmps22
    go_wp2
    go_quiet (fail)
    go_wp2
    go_ret
    exact ⟨rfl, bel_drewN (Below.refl _ _) _⟩
  rw [decide_eq_true ⟨h4, h5⟩, Bool.true_and] at hr
  have d4 : decide (op ≥ 1) = true := decide_eq_true h4
  have d5 : decide (op ≤ 37) = true := decide_eq_true h5
  obtain ⟨k, rfl⟩ : ∃ k : Nat, op = k := ⟨op.toNat, by omega⟩
  have hg := HG.2 k (by omega)
  rw [Int.toNat_natCast] at hr
  have hk : k < 38 := by omega
  have HR : Hid (r = ((nk : Int) == ((sg k).size : Int))) := hid_of (by rw [hr, Bool.eq_iff_iff, beq_iff_eq, decide_eq_true_eq]; omega)
  obtain ⟨s, hs⟩ : ∃ s, s = sg k := ⟨_, rfl⟩
  rw [← hs] at hg HR
  clear h1 h2 h3 h4 h5 ro hr hs HG
  go_enter Tryd.func22, Tryd.ntmps22
  go_wp2
  go_quiet (fail)
  go_wp2
  go_ret
  exact ⟨by rw [HR.out] <;> rfl, bel_drewN (Below.refl _ _) _⟩
end Go.Proofs.YtdacalplnggnoaaDoor
