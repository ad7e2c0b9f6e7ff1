/- Closed, and Close's errors. Bounds on sizes alone. -/
import Derived.Test.YtjponegeidiheaaClsTop
namespace Go.Proofs.Ytjponegeidiheaa
open Go.RowKit

/-- The set is closed. -/
def clsB (rs : List Gr) (s : List Str) : Bool := rs.all fun r => !(r.1.all fun x => decide (x ∈ s)) || decide (r.2 ∈ s)
theorem clsB_iff {rs : List Gr} {s : List Str} : clsB rs s = true ↔ CldS rs (fun x => x ∈ s) := by
  unfold clsB CldS
  rw [List.all_eq_true]
  refine forall_congr' fun r => forall_congr' fun _ => ?_
  rw [Bool.or_eq_true, Bool.not_eq_true', decide_eq_true_iff]
  constructor
  · rintro (h | h) hp
    · have : (r.1.all fun x => decide (x ∈ s)) = true := List.all_eq_true.2 fun y hy => decide_eq_true (hp y hy)
      rw [this] at h; cases h
    · exact h
  · intro h
    by_cases hp : (r.1.all fun x => decide (x ∈ s)) = true
    · exact .inr (h fun y hy => of_decide_eq_true (List.all_eq_true.1 hp y hy))
    · exact .inl (by simpa using hp)
theorem sub_len : ∀ (A B : List Nat), A.Nodup → (∀ x ∈ A, x ∈ B) → A.length ≤ B.length := by
  intro A
  induction A with
  | nil => intro B _ _; simp
  | cons a A ih =>
    intro B hA hB
    have ⟨h1, h2⟩ := List.nodup_cons.1 hA
    have h3 := ih (B.erase a) h2 (fun x hx => (List.mem_erase_of_ne (by rintro rfl; exact h1 hx)).2 (hB x (List.mem_cons_of_mem _ hx)))
    have h4 := List.length_erase_of_mem (hB a List.mem_cons_self)
    have h5 : 0 < B.length := List.length_pos_of_mem (hB a List.mem_cons_self)
    simp only [List.length_cons]
    omega
theorem len_cld {U : List Str} {rs : List Gr} {R : List Hrl} {s : List Str} {L T : List Nat} (hq : cwsE U rs s = 0) (hc : Cmp U rs R) (hL : Ix U s L) (hT : ∀ x, x ∈ T ↔ Der (On R off0) (fun x => x ∈ L) x) (hn : T.Nodup) (htn : ∀ x ∈ T, x < U.length) : decide (T.length = L.length) = clsB rs s := by
  have h0 : chkE U rs = 0 := by unfold cwsE at hq; split at hq; assumption; assumption
  have e0 : setE U s = 0 := by unfold cwsE at hq; rwa [if_pos h0] at hq
  obtain ⟨hU, hok⟩ := chk_ok h0
  obtain ⟨hs, _⟩ := setE_zero.1 e0
  have hLn := ix_nodup hs hL
  have hLT : ∀ x ∈ L, x ∈ T := fun x hx => (hT x).2 (.base hx)
  have l1 := sub_len L T hLn hLT
  have key : T.length = L.length ↔ ∀ x ∈ T, x ∈ L := by
    constructor
    · intro e x hx
      apply Classical.byContradiction
      intro hxL
      have := sub_len (x :: L) T (List.nodup_cons.2 ⟨hxL, hLn⟩) (fun y hy => by
        rcases List.mem_cons.1 hy with rfl | hy
        · exact hx
        · exact hLT y hy)
      simp only [List.length_cons] at this
      omega
    · intro h
      have := sub_len T L hn h
      omega
  have key2 : (∀ x ∈ T, x ∈ L) ↔ CldS rs (fun x => x ∈ s) := by
    constructor
    · intro h r hr hp
      obtain ⟨i, h1, h2⟩ := derS_to hU hc hL (fun r hr => ⟨(hok r hr).2.1, (hok r hr).2.2⟩) (DerS.rule hr fun y hy => .base (hp y hy))
      obtain ⟨x, h3, h4⟩ := hL.mem (h i ((hT i).2 h2))
      rw [h1] at h4
      cases h4
      exact h3
    · intro h i hi
      obtain ⟨x, hx⟩ : ∃ x, U[i]? = some x := ⟨_, List.getElem?_eq_getElem (htn i hi)⟩
      have h1 : x ∈ s := derS_least h (fun y hy => hy) (der_toS hc hL ((hT i).1 hi) x hx)
      obtain ⟨j, h2, h3⟩ := hL.mem_back h1
      rw [ss_inj hU hx h3]; exact h2
  rw [Bool.eq_iff_iff, decide_eq_true_iff, clsB_iff, key, key2]

set_option maxRecDepth 100000 in
set_option maxHeartbeats 800000 in
theorem closed_any (uo : Option Addr) (un uc : Nat) (U : List Str) (ro : Option Addr) (rn rc : Nat) (rs : List Gr) (so : Option Addr) (sn sc : Nat) (s : List Str) (w : World) (h : InU w uo un uc U ro rn rc rs) (hS : Rd w (.slice so sn sc) (ss s)) (hsn : sn ≤ 1000000) (hq : cwsE U rs s = 0) :
    Calls Try.prog 21 #[.slice uo un uc, .slice ro rn rc, .slice so sn sc] w fun e w' => e = .returned (.tuple #[.bool (clsB rs s), .int .i64 0]) ∧ Below w.heap.size w w' := by
  have h0 : chkE U rs = 0 := by unfold cwsE at hq; split at hq; assumption; assumption
  have hsl : sn = s.length := (rds_open hS).1
  have HC := hid_of (cws_good uo un uc U ro rn rc rs so sn sc s w h hS hsn hq)
  have hul := h.ul
  have hun := h.un
  have hrn := h.rn
  have HN : Hid (∀ w1 R ao cap, Cmp U rs R → CoR w.heap.size w1 (.slice ao rn cap) R → Calls Try.prog 46 #[.int .i64 un, .slice ao rn cap] w1 (NewP w.heap.size w1 un R)) := hid_of (fun w1 R ao cap hc hco => new_any w.heap.size un R ao rn cap w1 hco (by rw [hul]; exact cmp_ok (chk_ok h0).1 hc fun r hr => ((chk_ok h0).2 r hr).1) hun hrn)
  have HCL : Hid (∀ w1 w2 c R L lv, Ix U s L → Cmp U rs R → Below w.heap.size w w1 → w1.ownsRow 0 3 1 lv L.length (ints L) → NewI w.heap.size w1 c un R w2 → Calls Try.prog 47 #[.pointer (some ⟨c, 0, none⟩), lv] w2 fun e w' => e = .returned (.tuple #[]) ∧ ∃ (m : Nat) (ta : Option Addr) (tc : Nat), w'.cell? ⟨c, 5, none⟩ = some (.slice ta m tc) ∧ decide ((m : Int) = (sn : Int)) = clsB rs s ∧ Below w.heap.size w w') := hid_of (fun w1 w2 c R L lv hix hcm hb hl hni => (clo_made hni hun hl fun x hx => by rw [hul]; exact hix.lt hx).mono (by
    rintro e w' ⟨rfl, T, V, S, h1, h2, h3, h4⟩
    obtain ⟨ta, tc, htv⟩ := h1.tvs
    have c5 := h1.cell (j := 5) rfl
    rw [htv] at c5
    refine ⟨rfl, T.length, ta, tc, c5, ?_, hb.trans (h2.mono hb.size)⟩
    rw [← len_cld hq hcm hix h4 h1.nd (by rw [← hul]; exact h1.tn), hsl, hix.len]
    by_cases e : T.length = s.length
    · rw [decide_eq_true e, decide_eq_true (by omega)]
    · rw [decide_eq_false e, decide_eq_false (by omega)]))
  clear h hS h0 hq hul hrn hsl
  have huc : un ≤ 9223372036854775807 := by omega
  have hsc : sn ≤ 9223372036854775807 := by omega
  clear hun hsn
  go_enter Try.func21, Try.ntmps21
  go_wp2_with (first
    | (go_at_call 45; ((with_reducible refine (HC.out).mono ?_); (rintro e w1 ⟨R, L, ao, lo, cap, lc, rfl, h1, h2, h3, h4, h5⟩)); have C1 := hid_of h1; have C2 := hid_of h2; have C3 := hid_of h3; have C4 := hid_of h4; have B1 := hid_of h5; clear h1 h2 h3 h4 h5)
    | (go_at_call 46; ((with_reducible refine (HN.out w1 R ao cap C1.out C2.out).mono ?_); (rintro e w2 ⟨c, rfl, _, h1⟩)); have N2 := hid_of h1; clear h1)
    | (go_at_call 47; ((with_reducible refine (HCL.out w1 w2 c R L _ C3.out C1.out B1.out C4.out N2.out).mono ?_); (rintro e w3 ⟨rfl, m, ta, tc, k5, h2, h3⟩)); have D1 := hid_of h2; have D2 := hid_of h3; clear h2 h3))
  go_ret2
  exact ⟨by rw [← D1.out]; rfl, D2.out⟩
set_option maxRecDepth 100000 in
theorem close_err (uo : Option Addr) (un uc : Nat) (U : List Str) (ro : Option Addr) (rn rc : Nat) (rs : List Gr) (so : Option Addr) (sn sc : Nat) (s : List Str) (w : World) (h : InU w uo un uc U ro rn rc rs) (hS : Rd w (.slice so sn sc) (ss s)) (hsn : sn ≤ 1000000) (q : Nat) (hq : cwsE U rs s = q) (hq0 : q ≠ 0) :
    Calls Try.prog 20 #[.slice uo un uc, .slice ro rn rc, .slice so sn sc] w fun e w' => e = .returned (.tuple #[.slice none 0 0, .int .i64 (q : Int)]) ∧ Below w.heap.size w w' := by
  have HC := hid_of (cws_err uo un uc U ro rn rc rs so sn sc s w h hS hsn q hq hq0)
  have t1 : ((q : Int) != 0) = true := by simp; omega
  have t2 : ((q : Int) == 0) = false := by simp; omega
  clear h hS hq hq0
  go_enter Try.func20, Try.ntmps20
  go_wp2_with (go_at_call 45; ((with_reducible refine (HC.out).mono ?_); (rintro e w1 ⟨rfl, h5⟩)); have B1 := hid_of h5; clear h5)
  go_ret2
  exact ⟨rfl, B1.out⟩
set_option maxRecDepth 100000 in
theorem closed_err (uo : Option Addr) (un uc : Nat) (U : List Str) (ro : Option Addr) (rn rc : Nat) (rs : List Gr) (so : Option Addr) (sn sc : Nat) (s : List Str) (w : World) (h : InU w uo un uc U ro rn rc rs) (hS : Rd w (.slice so sn sc) (ss s)) (hsn : sn ≤ 1000000) (q : Nat) (hq : cwsE U rs s = q) (hq0 : q ≠ 0) :
    Calls Try.prog 21 #[.slice uo un uc, .slice ro rn rc, .slice so sn sc] w fun e w' => e = .returned (.tuple #[.bool false, .int .i64 (q : Int)]) ∧ Below w.heap.size w w' := by
  have HC := hid_of (cws_err uo un uc U ro rn rc rs so sn sc s w h hS hsn q hq hq0)
  have t1 : ((q : Int) != 0) = true := by simp; omega
  have t2 : ((q : Int) == 0) = false := by simp; omega
  clear h hS hq hq0
  go_enter Try.func21, Try.ntmps21
  go_wp2_with (go_at_call 45; ((with_reducible refine (HC.out).mono ?_); (rintro e w1 ⟨rfl, h5⟩)); have B1 := hid_of h5; clear h5)
  go_ret2
  exact ⟨rfl, B1.out⟩
end Go.Proofs.Ytjponegeidiheaa
