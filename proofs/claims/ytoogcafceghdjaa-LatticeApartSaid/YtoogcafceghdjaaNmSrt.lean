/- Sorted, of the package and of its reference, and the reference's Same. Bounds on sizes alone. -/
import Derived.Test.YtoogcafceghdjaaNmStr
namespace Go.Proofs.Ytoogcafceghdjaa
open Go.RowKit

/-- A list is sorted if each element is less than the next one. -/
theorem ss_adj : ∀ {l : List Str}, (∀ i, i + 1 < l.length → l.getD i [] < l.getD (i + 1) []) → SS l := by
  intro l; induction l with
  | nil => intro _; exact SS.nil
  | cons x l ih =>
    intro h
    have hl := ih (fun i hi => by have := h (i + 1) (by simp; omega); simpa using this)
    refine List.pairwise_cons.2 ⟨fun y hy => ?_, hl⟩
    cases l with
    | nil => simp at hy
    | cons z l =>
      have h0 := h 0 (by simp)
      simp at h0
      rcases List.mem_cons.1 hy with e | hy
      · rw [e]; exact h0
      · exact str_trans h0 ((List.pairwise_cons.1 hl).1 y hy)
theorem ss_get {l : List Str} (h : SS l) {i j : Nat} (hij : i < j) (hj : j < l.length) : l.getD i [] < l.getD j [] := by
  rw [getD_of hj, getD_of (by omega)]
  exact List.pairwise_iff_getElem.1 h i j (by omega) hj hij
/-- The first k elements are sorted. -/
def ssTo (l : List Str) (k : Nat) : Prop := ∀ i, i + 1 < k → l.getD i [] < l.getD (i + 1) []
theorem ssTo_succ {l : List Str} {k p : Nat} (h : ssTo l k) (hp : p + 1 = k) (h2 : l.getD p [] < l.getD k []) : ssTo l (k + 1) := by
  intro i hi
  by_cases e : i = p
  · subst e; rw [hp]; exact h2
  · exact h i (by omega)
instance (l : List Str) : Decidable (SS l) := by unfold SS; infer_instance
def ssB (l : List Str) : Bool := decide (SS l)
theorem ssB_yes {l : List Str} {n : Nat} (hn : n = l.length) (h : ssTo l n) : ssB l = true := decide_eq_true (ss_adj (fun i hi => h i (by omega)))
theorem ssB_no {l : List Str} {p k : Nat} (hp : p + 1 = k) (hk : k < l.length) (h : ¬ l.getD p [] < l.getD k []) : ssB l = false :=
  decide_eq_false (fun hs => h (ss_get hs (by omega) hk))
theorem ret_b {a b : Bool} (h : a = b) : Ending.returned (.bool a) = .returned (.bool b) := by rw [h]

set_option maxRecDepth 100000 in
theorem sorted_any (ao : Option Addr) (n cap : Nat) (l : List Str) (w : World) (R : Rd w (.slice ao n cap) (ss l)) :
    Calls Try.prog 81 #[.slice ao n cap] w fun e w' => e = .returned (.bool (ssB l)) ∧ Below w.heap.size w w' := by
  obtain ⟨hn, h1, h2, h3⟩ := rds_open R
  obtain ⟨r, hr⟩ : ∃ r, r = ssB l := ⟨_, rfl⟩
  rw [← hr]
  have HR := hid_of hr
  have HN := hid_of hn
  clear hr R hn
  rcases h3 with h3 | ⟨g, o, rfl, hg, hc⟩
  · have RF : Hid (r = true) := hid_of (by rw [HR.out, h3]; rfl)
    obtain rfl : n = 0 := by rw [HN.out, h3]; rfl
    clear h3 HN
    go_enter Try.func81, Try.ntmps81
    go_wp2
    go_loopw [3, 6] (fun xv iv wr => ∃ v : Value, xv = v ∧ iv = .int .i64 0 ∧ w = wr) (fun _ iv _ => 0)
    case atStart => exact ⟨_, rfl, rfl, rfl⟩
    case round =>
      obtain ⟨v, rfl, rfl, rfl⟩ := hrel
      go_wp2
      go_ret
      exact ⟨ret_b RF.out.symm, Below.refl _ _⟩
  · have HC := hid_of hc
    clear hc
    go_enter Try.func81, Try.ntmps81
    go_wp2
    go_loopw [3, 6] (fun xv iv wr => ∃ (k : Nat) (v : Value), xv = v ∧ k ≤ n ∧ iv = .int .i64 k ∧ Hid (ssTo l k) ∧ Hid (Below w.heap.size w wr)) (fun _ iv _ => n - (intOf iv).toNat)
    case atStart => exact ⟨0, _, rfl, Nat.zero_le _, rfl, hid_of (fun i hi => by omega), hid_of (Below.refl _ _)⟩
    case round =>
      obtain ⟨k, v, rfl, hk, rfl, hs, hb⟩ := hrel
      by_cases hlt : k < n
      · have hd : decide (k < n) = true := by simp; omega
        have hkl : Hid (k < l.length) := hid_of (by have := HN.out; omega)
        by_cases h0 : k = 0
        · have g0 : decide (0 < k) = false := by simp; omega
          have HS2 : Hid (ssTo l (k + 1)) := hid_of (fun i hi => by omega)
          clear h0
          go_wp2
          go_quiet (fail)
          go_wp2
          go_roundw
          case rel => exact ⟨k + 1, _, rfl, by omega, by go_num, HS2, hid_of (bel_drewN hb.out _)⟩
          case measure => simp [intOf]; omega
        · have g0 : decide (0 < k) = true := by simp; omega
          obtain ⟨p, hpk⟩ : ∃ p, p + 1 = k := ⟨k - 1, by omega⟩
          have hpl : Hid (p < l.length) := hid_of (by have := HN.out; omega)
          obtain ⟨bk, hbk⟩ : ∃ b, b = ba (l[k]'hkl.out) := ⟨_, rfl⟩
          obtain ⟨bp, hbp⟩ : ∃ b, b = ba (l[p]'hpl.out) := ⟨_, rfl⟩
          have c1 := (hb.out.cell (p := ⟨g, o + k, none⟩) hg).trans (HC.out k _ (List.getElem?_eq_getElem hkl.out))
          have c2 := (hb.out.cell (p := ⟨g, o + p, none⟩) hg).trans (HC.out p _ (List.getElem?_eq_getElem hpl.out))
          rw [← hbk] at c1
          rw [← hbp] at c2
          have s1 : IntKind.i64.wrap ((k : Int) - 1) = (p : Int) := by rw [IntWalk.i64_in _ (by omega)]; omega
          have b1 : (k : Int) < (n : Int) := by omega
          have b2 : (p : Int) < (n : Int) := by omega
          have b3 : (0 : Int) ≤ (k : Int) := by omega
          have b4 : (0 : Int) ≤ (p : Int) := by omega
          have HP := hid_of hpk
          clear hpk h0
          by_cases e : (l[p]'hpl.out) < (l[k]'hkl.out)
          · have t1 := lt_f hbk hbp (str_asym e)
            have t2 := eq_f hbk hbp (fun e2 => str_irr _ (e2 ▸ e))
            have HS2 := hid_of (ssTo_succ hs.out HP.out (by rw [getD_of hpl.out, getD_of hkl.out]; exact e))
            clear hbp hbk e
            go_wp2
            go_quiet (fail)
            clear s1
            go_wp2
            go_roundw
            case rel => exact ⟨k + 1, _, rfl, by omega, by go_num, HS2, hid_of (bel_drewN hb.out _)⟩
            case measure => simp [intOf]; omega
          · have RF : Hid (r = false) := hid_of (by rw [HR.out]; exact ssB_no HP.out hkl.out (by rw [getD_of hpl.out, getD_of hkl.out]; exact e))
            have t1 : (Op.bytesLess bk.toList bp.toList || bk.toList == bp.toList) = true := by
              rcases str_tri (l[p]'hpl.out) (l[k]'hkl.out) with h | h | h
              · exact absurd h e
              · rw [eq_t hbk hbp h.symm]; simp
              · rw [lt_t hbk hbp h]; simp
            clear hbp hbk e
            go_wp2
            go_quiet (fail)
            clear s1
            go_wp2
            go_ret
            exact ⟨ret_b RF.out.symm, bel_drewN hb.out _⟩
      · have hd : decide (k < n) = false := by simp; omega
        have RF : Hid (r = true) := hid_of (by rw [HR.out]; exact ssB_yes HN.out (by rw [show n = k by omega]; exact hs.out))
        go_wp2
        go_ret
        exact ⟨ret_b RF.out.symm, hb.out⟩
end Go.Proofs.Ytoogcafceghdjaa
