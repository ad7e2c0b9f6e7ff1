/- Decode of an encoding, of one with more behind it, of one that is cut. No condition. -/
import Derived.Test.YtofgmimdmgaljaaClkLawM
import Derived.Test.YtofgmimdmgaljaaWireR40
namespace Go.Proofs.Ytofgmimdmgaljaa
open Go.RowKit

theorem dloop_dead (d : List Int) : ∀ (k : Nat) (acc : List Tk), dloop d k none acc = none := by
  intro k
  induction k with
  | zero =>
    intro acc
    show (if Wr.eR d none = 0 ∧ okV acc = true then some acc else none) = none
    rw [if_neg (fun h => by have := h.1; simp [Wr.eR] at this)]
  | succ k ih =>
    intro acc
    show (if 63 < (Wr.uR d none).1 ∨ _ then none else dloop d k (Wr.uR d (Wr.uR d none).2).2 _) = none
    have e : Wr.uR d none = (0, none) := rfl
    rw [e, e]
    rw [if_neg (by simp)]
    exact ih _
theorem uR_enc {d : List Int} {off n : Nat} {r : List Int} (h : d.drop off = Wr.enc n ++ r) (hn : n < 18446744073709551616) : Wr.uR d (some off) = (n, some (off + (Wr.enc n).length)) ∧ d.drop (off + (Wr.enc n).length) = r := by
  have hd : Wr.dec (d.drop off) = some (n, (Wr.enc n).length) := by rw [h]; exact Wr.dec_enc n r hn
  refine ⟨by simp only [Wr.uR, hd], ?_⟩
  rw [← List.drop_drop, h, List.drop_left]
theorem uR_short {d : List Int} {off n m : Nat} (h : d.drop off = (Wr.enc n).take m) (hm : m < (Wr.enc n).length) : Wr.uR d (some off) = (0, none) := by
  have hd : Wr.dec (d.drop off) = none := by rw [h]; exact Wr.dec_short hm
  simp only [Wr.uR, hd]
def Bd (c : List Tk) : Prop := ∀ t ∈ c, 0 ≤ t.1 ∧ t.1 ≤ 63 ∧ 1 ≤ t.2 ∧ t.2 ≤ 1000000000000000
theorem encT_pos (t : Tk) : 2 ≤ (encT t).length := by
  have h1 := Wr.enc_length_pos t.1.toNat
  have h2 := Wr.enc_length_pos t.2.toNat
  unfold encT
  rw [List.length_append]; omega
theorem flat_len : ∀ c : List Tk, c.length ≤ (c.flatMap encT).length := by
  intro c
  induction c with
  | nil => simp
  | cons t r ih => have := encT_pos t; simp only [List.flatMap_cons, List.length_append, List.length_cons]; omega
theorem dloop_read (d : List Int) : ∀ (c : List Tk) (off : Nat) (acc : List Tk) (r : List Int), Bd c → d.drop off = c.flatMap encT ++ r → off ≤ d.length →
    dloop d c.length (some off) acc = if r = [] ∧ okV (acc ++ c) = true then some (acc ++ c) else none := by
  intro c
  induction c with
  | nil =>
    intro off acc r _ h ho
    simp only [List.flatMap_nil, List.nil_append] at h
    show (if Wr.eR d (some off) = 0 ∧ okV acc = true then some acc else none) = _
    rw [List.append_nil]
    have : Wr.eR d (some off) = 0 ↔ r = [] := by
      have hl : (d.drop off).length = r.length := by rw [h]
      rw [List.length_drop] at hl
      by_cases e : off = d.length
      · simp only [Wr.eR, if_pos e, true_iff]
        exact List.eq_nil_of_length_eq_zero (by omega)
      · simp only [Wr.eR, if_neg e]
        constructor
        · intro h; simp at h
        · rintro rfl; simp at hl; omega
    simp only [this]
  | cons t c ih =>
    intro off acc r hb h ho
    have ht := hb t (by simp)
    simp only [List.flatMap_cons, encT, List.append_assoc] at h
    obtain ⟨e1, d1⟩ := uR_enc h (by omega)
    obtain ⟨e2, d2⟩ := uR_enc d1 (by omega)
    show (if 63 < (Wr.uR d (some off)).1 ∨ _ then none else dloop d c.length (Wr.uR d (Wr.uR d (some off)).2).2 _) = _
    rw [e1]
    simp only [e2]
    rw [if_neg (by omega)]
    have hl1 : off + (Wr.enc t.1.toNat).length + (Wr.enc t.2.toNat).length ≤ d.length := by
      have hl : (d.drop off).length = (Wr.enc t.1.toNat ++ (Wr.enc t.2.toNat ++ (c.flatMap encT ++ r))).length := by rw [h]
      simp only [List.length_drop, List.length_append] at hl
      omega
    rw [ih _ _ r (fun s hs => hb s (by simp [hs])) d2 hl1]
    have e3 : ((t.1.toNat : Nat) : Int) = t.1 := by omega
    have e4 : ((t.2.toNat : Nat) : Int) = t.2 := by omega
    rw [e3, e4, List.append_assoc]
    rfl
theorem dloop_cut (d : List Int) : ∀ (c : List Tk) (off m : Nat) (acc : List Tk), Bd c → d.drop off = (c.flatMap encT).take m → m < (c.flatMap encT).length → dloop d c.length (some off) acc = none := by
  intro c
  induction c with
  | nil => intro off m acc _ _ h; simp at h
  | cons t c ih =>
    intro off m acc hb h hm
    have ht := hb t (by simp)
    simp only [List.flatMap_cons, encT, List.append_assoc, List.length_append] at h hm
    show (if 63 < (Wr.uR d (some off)).1 ∨ _ then none else dloop d c.length (Wr.uR d (Wr.uR d (some off)).2).2 _) = none
    by_cases h1 : m < (Wr.enc t.1.toNat).length
    · rw [List.take_append_of_le_length (by omega)] at h
      rw [uR_short h h1]
      have e : Wr.uR d none = (0, none) := rfl
      rw [e, if_neg (by simp)]
      exact dloop_dead d _ _
    · rw [List.take_append, List.take_of_length_le (by omega)] at h
      obtain ⟨e1, d1⟩ := uR_enc h (by omega)
      by_cases h2 : m - (Wr.enc t.1.toNat).length < (Wr.enc t.2.toNat).length
      · rw [List.take_append_of_le_length (by omega)] at d1
        rw [e1]
        simp only [uR_short d1 h2]
        rw [if_neg (by omega)]
        exact dloop_dead d _ _
      · rw [List.take_append, List.take_of_length_le (by omega)] at d1
        obtain ⟨e2, d2⟩ := uR_enc d1 (by omega)
        rw [e1]
        simp only [e2]
        rw [if_neg (by omega)]
        exact ih _ _ _ (fun s hs => hb s (by simp [hs])) d2 (by omega)
theorem VV.bds {c : List Tk} (h : VV c) : Bd c := h.2
theorem dcd_more {c : List Tk} (h : VV c) (r : List Int) : dcd (encV c ++ r) = if r = [] then some c else none := by
  have h64 := h.len
  have hd : Wr.dec ((encV c ++ r).drop 0) = some (c.length, (Wr.enc c.length).length) := by
    rw [List.drop_zero]
    unfold encV
    rw [List.append_assoc]
    exact Wr.dec_enc _ _ (by omega)
  have hf := flat_len c
  have hl : 0 + (Wr.enc c.length).length + c.length ≤ (encV c ++ r).length := by
    unfold encV; simp only [List.length_append]; omega
  have hc : Wr.cR (encV c ++ r) 0 = (c.length, some (0 + (Wr.enc c.length).length)) := by simp only [Wr.cR, hd, if_pos hl]
  unfold dcd
  rw [hc]
  simp only
  rw [if_neg (by omega), dloop_read _ c _ [] r h.bds (by rw [Nat.zero_add]; unfold encV; rw [List.append_assoc, List.drop_left]) (by omega)]
  rw [List.nil_append, (okV_iff c).2 h]
  simp
theorem dcd_enc {c : List Tk} (h : VV c) : dcd (encV c) = some c := by
  have := dcd_more h []
  rw [List.append_nil, if_pos rfl] at this
  exact this
theorem dcd_cut {c : List Tk} (h : VV c) (m : Nat) (hm : m < (encV c).length) : dcd ((encV c).take m) = none := by
  have h64 := h.len
  unfold encV at hm ⊢
  rw [List.length_append] at hm
  by_cases h1 : m < (Wr.enc c.length).length
  · rw [List.take_append_of_le_length (by omega)]
    have hd : Wr.dec (((Wr.enc c.length).take m).drop 0) = none := by rw [List.drop_zero]; exact Wr.dec_short h1
    have hc : Wr.cR ((Wr.enc c.length).take m) 0 = (0, none) := by simp only [Wr.cR, hd]
    unfold dcd
    rw [hc]
    simp only
    rw [if_neg (by omega)]
    exact dloop_dead _ _ _
  · rw [List.take_append, List.take_of_length_le (by omega)]
    obtain ⟨k, hk⟩ : ∃ k, k = m - (Wr.enc c.length).length := ⟨_, rfl⟩
    rw [← hk]
    have hd : Wr.dec ((Wr.enc c.length ++ (c.flatMap encT).take k).drop 0) = some (c.length, (Wr.enc c.length).length) := by
      rw [List.drop_zero]; exact Wr.dec_enc _ _ (by omega)
    unfold dcd
    by_cases hl : 0 + (Wr.enc c.length).length + c.length ≤ (Wr.enc c.length ++ (c.flatMap encT).take k).length
    · have hc : Wr.cR (Wr.enc c.length ++ (c.flatMap encT).take k) 0 = (c.length, some (0 + (Wr.enc c.length).length)) := by simp only [Wr.cR, hd, if_pos hl]
      rw [hc]
      simp only
      rw [if_neg (by omega)]
      exact dloop_cut _ c _ k [] h.bds (by rw [Nat.zero_add, List.drop_left]) (by omega)
    · have hc : Wr.cR (Wr.enc c.length ++ (c.flatMap encT).take k) 0 = (0, none) := by simp only [Wr.cR, hd, if_neg hl]
      rw [hc]
      simp only
      rw [if_neg (by omega)]
      exact dloop_dead _ _ _
end Go.Proofs.Ytofgmimdmgaljaa
