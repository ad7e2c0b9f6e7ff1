/- What the statements look at; the reference's Subset. Bounds on sizes alone. -/
import Derived.Test.YtjponegeidiheaaClsTop
import Derived.Test.YtjponegeidiheaaClsHas
namespace Go.Proofs.Ytjponegeidiheaa
open Go.RowKit

def hvB (U : List Str) (rs : List Gr) : Bool := decide (40 < U.length) || decide (60 < rs.length) || rs.any fun r => decide (41 < r.1.length)
theorem hvB_no {U : List Str} {rs : List Gr} (h : hvB U rs = false) : U.length ≤ 40 ∧ rs.length ≤ 60 ∧ ∀ r ∈ rs, r.1.length ≤ 41 := by
  unfold hvB at h
  simp only [Bool.or_eq_false_iff, decide_eq_false_iff_not, List.any_eq_false] at h
  exact ⟨by omega, by omega, fun r hr => by have := h.2 r hr; simp at this; omega⟩
theorem hvB_yes {U : List Str} {rs : List Gr} (h : 40 < U.length ∨ 60 < rs.length ∨ ∃ r ∈ rs, 41 < r.1.length) : hvB U rs = true := by
  unfold hvB
  rcases h with h | h | ⟨r, hr, h⟩
  · simp [h]
  · simp [h]
  · simp only [Bool.or_eq_true, List.any_eq_true]
    exact .inr ⟨r, hr, decide_eq_true h⟩
theorem RuR.get {w : World} {ro : Option Addr} {rn rc : Nat} {rs : List Gr} (h : RuR w (.slice ro rn rc) rs) {k : Nat} {r : Gr} (hr : rs[k]? = some r) : ∃ g o a c, ro = some ⟨g, o, none⟩ ∧ w.cell? ⟨g, o + k * 2, none⟩ = some (.slice a r.1.length c) ∧ w.cell? ⟨g, o + k * 2 + 1, none⟩ = some (.string (ba r.2)) ∧ Rd w (.slice a r.1.length c) (ss r.1) := by
  obtain ⟨l, h1, h2, h3⟩ := h
  obtain ⟨t, ht⟩ : ∃ t, l[k]? = some t := ⟨_, List.getElem?_eq_getElem (by have := (List.getElem?_eq_some_iff.1 hr).1; omega)⟩
  obtain ⟨g, o, e, c0, c1⟩ := h1.get ht
  obtain ⟨q1, q2⟩ := h3 k t r ht hr
  obtain ⟨a, c, e2, r2⟩ := q1
  rw [ss_length] at e2
  refine ⟨g, o, a, c, e, by rw [c0, e2], by rw [c1, q2], ?_⟩
  rw [← e2]; exact (h3 k t r ht hr).1
theorem RuR.len {w : World} {ro : Option Addr} {rn rc : Nat} {rs : List Gr} (h : RuR w (.slice ro rn rc) rs) : rn = rs.length ∧ rn ≤ 9223372036854775807 := by
  obtain ⟨l, h1, h2, _⟩ := h
  have := h1.cut; omega

set_option maxRecDepth 100000 in
set_option maxHeartbeats 800000 in
theorem heavy_any (uo : Option Addr) (un uc : Nat) (U : List Str) (ro : Option Addr) (rn rc : Nat) (rs : List Gr) (w : World) (hU : Rd w (.slice uo un uc) (ss U)) (hR : RuR w (.slice ro rn rc) rs) :
    Calls Try.prog 16 #[.slice uo un uc, .slice ro rn rc] w fun e w' => e = .returned (.bool (hvB U rs)) ∧ w = w' := by
  obtain ⟨hn, h1, h2, _⟩ := rds_open hU
  obtain ⟨hm, h3⟩ := hR.len
  obtain ⟨r, hr⟩ : ∃ r, r = hvB U rs := ⟨_, rfl⟩
  rw [← hr]
  have HR := hid_of hr
  have HN := hid_of hn
  have HM := hid_of hm
  have HRU := hid_of hR
  have hun : un ≤ 9223372036854775807 := by omega
  clear hr hU hR hn hm h1 h2
  by_cases e1 : 40 < un
  · have d0 : decide ((40 : Int) < (un : Int)) = true := by simp; omega
    have d1 : decide (40 < un) = true := by simp; omega
    have d2 : decide ((un : Int) > 40) = true := by simp; omega
    have RF : Hid (r = true) := hid_of (by rw [HR.out]; exact hvB_yes (.inl (by have := HN.out; omega)))
    go_enter Try.func16, Try.ntmps16
    go_wp2
    go_ret
    exact ⟨by rw [RF.out] <;> rfl, rfl⟩
  · have d0 : decide ((40 : Int) < (un : Int)) = false := by simp; omega
    have d1 : decide (40 < un) = false := by simp; omega
    have d2 : decide ((un : Int) > 40) = false := by simp; omega
    have E1 := hid_of e1
    clear e1
    by_cases e2 : 60 < rn
    · have d3 : decide ((60 : Int) < (rn : Int)) = true := by simp; omega
      have d4 : decide (60 < rn) = true := by simp; omega
      have d5 : decide ((rn : Int) > 60) = true := by simp; omega
      have RF : Hid (r = true) := hid_of (by rw [HR.out]; exact hvB_yes (.inr (.inl (by have := HM.out; omega))))
      go_enter Try.func16, Try.ntmps16
      go_wp2
      go_ret
      exact ⟨by rw [RF.out] <;> rfl, rfl⟩
    · have d3 : decide ((60 : Int) < (rn : Int)) = false := by simp; omega
      have d4 : decide (60 < rn) = false := by simp; omega
      have d5 : decide ((rn : Int) > 60) = false := by simp; omega
      have E2 := hid_of e2
      have hrn : rn ≤ 60 := by omega
      clear e2
      go_enter Try.func16, Try.ntmps16
      go_wp2
      go_loop [5] (fun iv => ∃ k : Nat, k ≤ rn ∧ iv = .int .i64 k ∧ Hid (∀ q ∈ rs.take k, q.1.length ≤ 41)) (fun iv => rn - (intOf iv).toNat)
      case atStart => exact ⟨0, Nat.zero_le _, rfl, hid_of (by simp)⟩
      case round =>
        obtain ⟨k, hk, rfl, hx⟩ := hrel
        by_cases hlt : k < rn
        · have hd : decide (k < rn) = true := by simp; omega
          obtain ⟨q, hq⟩ : ∃ q, rs[k]? = some q := ⟨_, List.getElem?_eq_getElem (by have := HM.out; omega)⟩
          obtain ⟨g, o, a, c, rfl, c0, _, rq⟩ := HRU.out.get hq
          obtain ⟨_, p1, p2, _⟩ := rds_open rq
          obtain ⟨m, hm⟩ : ∃ m, m = q.1.length := ⟨_, rfl⟩
          rw [← hm] at c0 p1
          have hm9 : m ≤ 9223372036854775807 := by omega
          have HQ := hid_of hq
          have HMM := hid_of hm
          clear hq hm rq p1 p2
          by_cases e : 41 < m
          · have t1 : decide ((41 : Int) < (m : Int)) = true := by simp; omega
            have t2 : decide (41 < m) = true := by simp; omega
            have t3 : decide ((m : Int) > 41) = true := by simp; omega
            have RF : Hid (r = true) := hid_of (by rw [HR.out]; exact hvB_yes (.inr (.inr ⟨q, List.mem_of_getElem? HQ.out, by have := HMM.out; omega⟩)))
            clear e
            go_wp2
            go_ret
            exact ⟨by rw [RF.out] <;> rfl, rfl⟩
          · have t1 : decide ((41 : Int) < (m : Int)) = false := by simp; omega
            have t2 : decide (41 < m) = false := by simp; omega
            have t3 : decide ((m : Int) > 41) = false := by simp; omega
            have hx2 : Hid (∀ q ∈ rs.take (k + 1), q.1.length ≤ 41) := hid_of (fun y hy => by
              rw [take_snoc_get HQ.out, List.mem_append, List.mem_singleton] at hy
              rcases hy with hy | rfl
              · exact hx.out y hy
              · have := HMM.out; omega)
            clear e
            go_wp2
            go_round
            case rel => exact ⟨k + 1, by omega, by go_num, hx2⟩
            case measure => simp [intOf]; omega
        · have hd : decide (k < rn) = false := by simp; omega
          have RF : Hid (r = false) := hid_of (by
            rw [HR.out, Bool.eq_false_iff]
            intro h
            unfold hvB at h
            simp only [Bool.or_eq_true, decide_eq_true_iff, List.any_eq_true] at h
            have h5 := hx.out
            rw [List.take_of_length_le (by have := HM.out; omega)] at h5
            have := HN.out; have := HM.out; have := E1.out; have := E2.out
            rcases h with (h | h) | ⟨y, hy, h⟩
            · omega
            · omega
            · have := h5 y hy; omega)
          go_wp2
          go_ret
          exact ⟨by rw [RF.out] <;> rfl, rfl⟩

def subB (a b : List Str) : Bool := a.all fun x => decide (x ∈ b)
theorem subB_iff {a b : List Str} : subB a b = true ↔ ∀ x ∈ a, x ∈ b := by simp [subB]
set_option maxRecDepth 100000 in
set_option maxHeartbeats 800000 in
theorem rsub_any (ao : Option Addr) (n cap : Nat) (a : List Str) (bo : Option Addr) (m cb : Nat) (b : List Str) (w : World) (R : Rd w (.slice ao n cap) (ss a)) (RB : Rd w (.slice bo m cb) (ss b)) :
    Calls Try.prog 25 #[.slice ao n cap, .slice bo m cb] w fun e w' => e = .returned (.bool (subB a b)) ∧ w = w' := by
  obtain ⟨hn, h1, h2, h3⟩ := rds_open R
  obtain ⟨r, hr⟩ : ∃ r, r = subB a b := ⟨_, rfl⟩
  rw [← hr]
  have HR := hid_of hr
  have HN := hid_of hn
  have HH : Hid (∀ bx x, bx = ba x → Calls Try.prog 26 #[.slice bo m cb, .string bx] w fun e w' => e = .returned (.bool (decide (x ∈ b))) ∧ w = w') := hid_of (fun bx x e => by rw [e]; exact rhas_any bo m cb b x w RB)
  clear hr R hn RB
  rcases h3 with h3 | ⟨g, o, rfl, hg, hc⟩
  · have RF : Hid (r = true) := hid_of (by rw [HR.out, h3]; rfl)
    obtain rfl : n = 0 := by rw [HN.out, h3]; rfl
    clear h3 HN
    go_enter Try.func25, Try.ntmps25
    go_wp2
    go_loop [5] (fun iv => iv = .int .i64 0) (fun iv => 0)
    case atStart => exact rfl
    case round =>
      obtain rfl := hrel
      go_wp2
      go_ret
      exact ⟨by rw [RF.out] <;> rfl, rfl⟩
  · have HC := hid_of hc
    clear hc
    go_enter Try.func25, Try.ntmps25
    go_wp2
    go_loop [5] (fun iv => ∃ k : Nat, k ≤ n ∧ iv = .int .i64 k ∧ Hid (∀ x ∈ a.take k, x ∈ b)) (fun iv => n - (intOf iv).toNat)
    case atStart => exact ⟨0, Nat.zero_le _, rfl, hid_of (by simp)⟩
    case round =>
      obtain ⟨k, hk, rfl, hx⟩ := hrel
      by_cases hlt : k < n
      · have hd : decide (k < n) = true := by simp; omega
        have hkl : Hid (k < a.length) := hid_of (by have := HN.out; omega)
        obtain ⟨bb, hb⟩ : ∃ bb, bb = ba (a[k]'hkl.out) := ⟨_, rfl⟩
        have c1 := HC.out k (a[k]'hkl.out) (List.getElem?_eq_getElem hkl.out)
        rw [← hb] at c1
        by_cases e : a[k]'hkl.out ∈ b
        · have HB : Hid (Calls Try.prog 26 #[.slice bo m cb, .string bb] w fun e w' => e = .returned (.bool true) ∧ w = w') := hid_of (by have := HH.out bb _ hb; rw [decide_eq_true e] at this; exact this)
          have hx2 : Hid (∀ x ∈ a.take (k + 1), x ∈ b) := hid_of (fun y hy => by
            rw [take_snoc' hkl.out, List.mem_append, List.mem_singleton] at hy
            rcases hy with hy | rfl
            · exact hx.out y hy
            · exact e)
          clear hb e
          go_wp2_with (go_at_call 26; ((with_reducible refine (HB.out).mono ?_); (rintro ee w' ⟨rfl, rfl⟩)))
          go_round
          case rel => exact ⟨k + 1, by omega, by go_num, hx2⟩
          case measure => simp [intOf]; omega
        · have HB : Hid (Calls Try.prog 26 #[.slice bo m cb, .string bb] w fun e w' => e = .returned (.bool false) ∧ w = w') := hid_of (by have := HH.out bb _ hb; rw [decide_eq_false e] at this; exact this)
          have RF : Hid (r = false) := hid_of (by
            rw [HR.out, Bool.eq_false_iff]; intro h; exact e (subB_iff.1 h _ (List.getElem_mem hkl.out)))
          clear hb e
          go_wp2_with (go_at_call 26; ((with_reducible refine (HB.out).mono ?_); (rintro ee w' ⟨rfl, rfl⟩)))
          go_ret
          exact ⟨by rw [RF.out] <;> rfl, rfl⟩
      · have hd : decide (k < n) = false := by simp; omega
        have RF : Hid (r = true) := hid_of (by
          rw [HR.out]; have h := hx.out; rw [List.take_of_length_le (by have := HN.out; omega)] at h
          exact subB_iff.2 h)
        go_wp2
        go_ret
        exact ⟨by rw [RF.out] <;> rfl, rfl⟩
end Go.Proofs.Ytjponegeidiheaa
