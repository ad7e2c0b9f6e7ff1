/- Mathematics of the reduction: it has the closure, and no pair can be left out. No program. -/
import Derived.Test.YtjfjcgbdpjpodaaDoorOrdAt
namespace Go.Proofs.YtjfjcgbdpjpodaaDoor

theorem mem_rowp {M : Nat → Nat → Bool} {a b : Nat} {p : Tk} : p ∈ rowp M a b ↔ ∃ x : Nat, x < b ∧ M a x = true ∧ p = ((a : Int), (x : Int)) := by
  unfold rowp
  simp only [List.mem_map, List.mem_filter, List.mem_range]
  constructor
  · rintro ⟨x, ⟨h1, h2⟩, rfl⟩; exact ⟨x, h1, h2, rfl⟩
  · rintro ⟨x, h1, h2, rfl⟩; exact ⟨x, ⟨h1, h2⟩, rfl⟩
theorem mem_matp {n : Nat} {M : Nat → Nat → Bool} {k : Nat} {p : Tk} : p ∈ matp n M k ↔ ∃ a x : Nat, a < k ∧ x < n ∧ M a x = true ∧ p = ((a : Int), (x : Int)) := by
  unfold matp
  simp only [List.mem_flatMap, List.mem_range, mem_rowp]
  constructor
  · rintro ⟨a, h1, x, h2, h3, h4⟩; exact ⟨a, x, h1, h2, h3, h4⟩
  · rintro ⟨a, x, h1, h2, h3, h4⟩; exact ⟨a, h1, x, h2, h3, h4⟩
theorem mem_matp2 {n : Nat} {M : Nat → Nat → Bool} {a b : Nat} : ((a : Int), (b : Int)) ∈ matp n M n ↔ a < n ∧ b < n ∧ M a b = true := by
  rw [mem_matp]
  constructor
  · rintro ⟨x, y, h1, h2, h3, h4⟩
    simp only [Prod.mk.injEq] at h4
    rw [show a = x by omega, show b = y by omega]
    exact ⟨h1, h2, h3⟩
  · rintro ⟨h1, h2, h3⟩; exact ⟨a, b, h1, h2, h3, rfl⟩
theorem rowp_nd (M : Nat → Nat → Bool) (a b : Nat) : (rowp M a b).Nodup := by
  unfold rowp
  have h1 : ((List.range b).filter (M a)).Nodup := List.nodup_range.filter _
  rw [List.nodup_iff_pairwise_ne] at h1 ⊢
  rw [List.pairwise_map]
  exact h1.imp (fun h e => h (by simp only [Prod.mk.injEq] at e; omega))
theorem matp_nd (n : Nat) (M : Nat → Nat → Bool) : ∀ k, (matp n M k).Nodup
  | 0 => by simp [matp]
  | k + 1 => by
    rw [matp_succ, List.nodup_append]
    refine ⟨matp_nd n M k, rowp_nd M k n, fun p hp q hq e => ?_⟩
    subst e
    obtain ⟨a, x, h1, _, _, h4⟩ := mem_matp.1 hp
    obtain ⟨y, _, _, h5⟩ := mem_rowp.1 hq
    rw [h4] at h5
    simp only [Prod.mk.injEq] at h5
    omega
theorem valid_of {n : Nat} {l : List Tk} (h : ∀ p ∈ l, ∃ a b : Nat, a < n ∧ b < n ∧ p = ((a : Int), (b : Int))) : valid n l = true := by
  unfold valid
  rw [List.all_eq_true]
  intro p hp
  obtain ⟨a, b, h1, h2, rfl⟩ := h p hp
  simp only [decide_eq_true_eq]
  omega
theorem chk_of {n : Nat} {l : List Tk} (hn : n ≤ 64) (hl : l.length ≤ 4096) (h : valid n l = true) : chkE n l = 0 := by
  unfold chkE
  rw [if_neg (by omega), if_neg (by omega), if_pos (by rw [okp_valid]; exact h)]
theorem matp_len4 {n : Nat} (hn : n ≤ 64) (M : Nat → Nat → Bool) : (matp n M n).length ≤ 4096 := by
  have := matp_len n M n
  have h2 : n * n ≤ 64 * 64 := Nat.mul_le_mul hn hn
  omega
theorem rm_iff {n : Nat} {R : Nat → Nat → Bool} {a b : Nat} : rm n R a b = true ↔ R a b = true ∧ ∀ c, c < n → ¬ (R a c = true ∧ R c b = true) := by
  unfold rm
  simp only [Bool.and_eq_true, Bool.not_eq_true', ← Bool.not_eq_true, List.any_eq_true, List.mem_range]
  constructor
  · rintro ⟨h1, h2⟩; exact ⟨h1, fun c hc h3 => h2 ⟨c, hc, h3⟩⟩
  · rintro ⟨h1, h2⟩; exact ⟨h1, fun ⟨c, hc, h3⟩ => h2 c hc h3⟩
/-- Every pair is reached by covering pairs. -/
theorem SO.covers {n : Nat} {R : Nat → Nat → Bool} (h : SO n R) (S : Nat → Nat → Prop) (ht : ∀ a b c, S a b → S b c → S a c) (hc : ∀ a b, rm n R a b = true → S a b) : ∀ k a b, ((List.range n).filter fun c => R a c && R c b).length ≤ k → R a b = true → S a b
  | k, a, b, hk, hr => by
    by_cases he : ∃ c, c < n ∧ R a c = true ∧ R c b = true
    · obtain ⟨c, hcn, h1, h2⟩ := he
      have l1 : ((List.range n).filter fun x => R a x && R x c).length < ((List.range n).filter fun x => R a x && R x b).length :=
        cnt_lt n (fun j _ hj => by
          simp only [Bool.and_eq_true] at hj ⊢
          exact ⟨hj.1, h.tr _ _ _ hj.2 h2⟩) ⟨c, hcn, by rw [h1, h2]; rfl, by rw [h.irr]; simp⟩
      have l2 : ((List.range n).filter fun x => R c x && R x b).length < ((List.range n).filter fun x => R a x && R x b).length :=
        cnt_lt n (fun j _ hj => by
          simp only [Bool.and_eq_true] at hj ⊢
          exact ⟨h.tr _ _ _ h1 hj.1, hj.2⟩) ⟨c, hcn, by rw [h1, h2]; rfl, by rw [h.irr]; simp⟩
      cases k with
      | zero => omega
      | succ k => exact ht a c b (SO.covers h S ht hc k a c (by omega) h1) (SO.covers h S ht hc k c b (by omega) h2)
    · exact hc a b (rm_iff.2 ⟨hr, fun c hcn h1 => he ⟨c, hcn, h1⟩⟩)
section
variable {n : Nat} (hn : n ≤ 64) {ps : List Tk} (hv : valid n ps = true)
include hn hv
theorem red_mem {p : Tk} : p ∈ redL n ps ↔ ∃ a b : Nat, a < n ∧ b < n ∧ rm n (bm (clo n ps)) a b = true ∧ p = ((a : Int), (b : Int)) := by
  rw [redL_mat hn hv]; exact mem_matp
theorem red_valid : valid n (redL n ps) = true := valid_of fun p hp => by
  obtain ⟨a, b, h1, h2, _, h3⟩ := (red_mem hn hv).1 hp
  exact ⟨a, b, h1, h2, h3⟩
theorem red_len : (redL n ps).length ≤ 4096 := by rw [redL_mat hn hv]; exact matp_len4 hn _
variable (hc : acyc n (clo n ps) = true)
include hc
theorem red_bit (a b : Nat) : (clo n (redL n ps) a).testBit b = (clo n ps a).testBit b := by
  have hso := so_clo hn hv hc
  rw [Bool.eq_iff_iff]
  constructor
  · refine clo_least hn (red_valid hn hv) (fun a b => (clo n ps a).testBit b = true) (fun _ _ _ h1 h2 => clo_trans hn hv h1 h2) (fun a b h1 => ?_)
    obtain ⟨x, y, _, _, h2, h3⟩ := (red_mem hn hv).1 ((base_bit hn (red_valid hn hv) a b).1 h1)
    simp only [Prod.mk.injEq] at h3
    rw [show a = x by omega, show b = y by omega]
    exact (rm_iff.1 h2).1
  · intro h1
    refine hso.covers (fun a b => (clo n (redL n ps) a).testBit b = true) (fun _ _ _ h1 h2 => clo_trans hn (red_valid hn hv) h1 h2) (fun a b h2 => ?_) _ a b (Nat.le_refl _) h1
    have h3 := hso.lt a b (rm_iff.1 h2).1
    exact clo_pair hn (red_valid hn hv) ((red_mem hn hv).2 ⟨a, b, h3.1, h3.2, h2, rfl⟩)
theorem red_clo : cloL n (redL n ps) = cloL n ps := by
  rw [cloL_mat hn hv, cloL_mat hn (red_valid hn hv)]
  have : bm (clo n (redL n ps)) = bm (clo n ps) := by funext a b; exact red_bit hn hv hc a b
  rw [this]
theorem less_spec {i : Nat} (hi : i < (redL n ps).length) {l : List Tk} (hl : l = (redL n ps).take i ++ (redL n ps).drop (i + 1)) : chkE n l = 0 ∧ cloL n l ≠ cloL n ps := by
  have hsub : ∀ p ∈ l, p ∈ redL n ps := by
    intro p hp
    rw [hl] at hp
    rcases List.mem_append.1 hp with hp | hp
    · exact List.mem_of_mem_take hp
    · exact List.mem_of_mem_drop hp
  have hlv : valid n l = true := valid_of fun p hp => by
    obtain ⟨a, b, h1, h2, _, h3⟩ := (red_mem hn hv).1 (hsub p hp)
    exact ⟨a, b, h1, h2, h3⟩
  have hll : l.length ≤ 4096 := by
    have := red_len hn hv
    rw [hl, List.length_append, List.length_take, List.length_drop]
    omega
  refine ⟨chk_of hn hll hlv, fun he => ?_⟩
  obtain ⟨p, hp⟩ : ∃ p, (redL n ps)[i]? = some p := ⟨_, List.getElem?_eq_getElem hi⟩
  obtain ⟨a, b, ha, hb, h2, rfl⟩ := (red_mem hn hv).1 (List.mem_of_getElem? hp)
  have hnot : ((a : Int), (b : Int)) ∉ l := by
    have hnd : (redL n ps).Nodup := by rw [redL_mat hn hv]; exact matp_nd _ _ _
    obtain ⟨hi2, hpe⟩ := List.getElem?_eq_some_iff.1 hp
    have hsplit : redL n ps = (redL n ps).take i ++ ((a : Int), (b : Int)) :: (redL n ps).drop (i + 1) := by
      rw [← hpe, ← List.drop_eq_getElem_cons hi2, List.take_append_drop]
    rw [hsplit, List.nodup_append, List.nodup_cons] at hnd
    intro hm
    rw [hl] at hm
    rcases List.mem_append.1 hm with hm | hm
    · exact hnd.2.2 _ hm _ (by simp) rfl
    · exact hnd.2.1.1 hm
  have hso := so_clo hn hv hc
  have h3 := rm_iff.1 h2
  have key : ∀ x y, (clo n l x).testBit y = true → bm (clo n ps) x y = true ∧ ¬ (x = a ∧ y = b) := by
    intro x y
    refine clo_least hn hlv (fun x y => bm (clo n ps) x y = true ∧ ¬ (x = a ∧ y = b)) ?_ ?_
    · rintro x y z ⟨h4, _⟩ ⟨h5, _⟩
      refine ⟨hso.tr _ _ _ h4 h5, ?_⟩
      rintro ⟨rfl, rfl⟩
      exact h3.2 y (hso.lt _ _ h4).2 ⟨h4, h5⟩
    · intro x y h4
      have hm := (base_bit hn hlv x y).1 h4
      obtain ⟨x2, y2, _, _, h5, h6⟩ := (red_mem hn hv).1 (hsub _ hm)
      simp only [Prod.mk.injEq] at h6
      rw [← show x = x2 by omega, ← show y = y2 by omega] at h5
      refine ⟨(rm_iff.1 h5).1, ?_⟩
      rintro ⟨rfl, rfl⟩
      exact hnot hm
  have hin : ((a : Int), (b : Int)) ∈ cloL n ps := by rw [cloL_mat hn hv]; exact mem_matp2.2 ⟨ha, hb, h3.1⟩
  rw [← he, cloL_mat hn hlv] at hin
  exact (key a b (mem_matp2.1 hin).2.2).2 ⟨rfl, rfl⟩
end
end Go.Proofs.YtjfjcgbdpjpodaaDoor
