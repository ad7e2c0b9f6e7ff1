/- The chapter's example. No condition. -/
import Derived.Test.YtjponegeidiheaaClsAll
import Derived.Test.YtjponegeidiheaaClsSrt
namespace Go.Proofs.Ytjponegeidiheaa
open Go.RowKit

def UABC : List Str := [[97], [98], [99]]
def RAB : List Gr := [([[97]], [98]), ([[98]], [99])]
theorem abc_chk : chkE UABC RAB = 0 := by decide
theorem abc_cws : cwsE UABC RAB [[97]] = 0 := by decide
theorem abc_all : (allF UABC RAB).length = 4 := by decide
theorem abc_ss : SS UABC := (chk_ok abc_chk).1
theorem rd_abc (w : World) : Rd (w.alloc (.cells #[.string ⟨#[97]⟩, .string ⟨#[98]⟩, .string ⟨#[99]⟩] 9)) (.slice (some ⟨w.heap.size, 0, none⟩) 3 3) (ss UABC) := rd_new rfl rfl (by decide)
theorem rd_a (w : World) (c : Str) : Rd (w.alloc (.cells #[.string (ba c)] 9)) (.slice (some ⟨w.heap.size, 0, none⟩) 1 1) (ss [c]) := rd_new rfl rfl (by simp [ss])
theorem rur_ab {n : Nat} {a1 a2 : Option Addr} (w : World) (k : w.heap.size = n) (R1 : Rd w (.slice a1 1 1) (ss [[97]])) (R2 : Rd w (.slice a2 1 1) (ss [[98]])) :
    RuR (w.alloc (.cells #[.slice a1 1 1, .string ⟨#[98]⟩, .slice a2 1 1, .string ⟨#[99]⟩] 41)) (.slice (some ⟨n, 0, none⟩) 2 2) RAB := by
  subst k
  have hb := heap_alloc_new w (.cells #[.slice a1 1 1, .string ⟨#[98]⟩, .slice a2 1 1, .string ⟨#[99]⟩] 41)
  have B := bel_alloc w (.cells #[.slice a1 1 1, .string ⟨#[98]⟩, .slice a2 1 1, .string ⟨#[99]⟩] 41)
  refine ⟨[(.slice a1 1 1, .string ⟨#[98]⟩), (.slice a2 1 1, .string ⟨#[99]⟩)], ⟨_, _, rfl, Nat.le_refl _, by decide, fun _ => ⟨_, _, rfl, by simp, fun i t hi => ?_⟩⟩, rfl, fun i t r ht hr => ?_⟩
  · have hi2 : i = 0 ∨ i = 1 := by have := (List.getElem?_eq_some_iff.1 hi).1; simp at this; omega
    rcases hi2 with rfl | rfl
    · simp only [List.getElem?_cons_zero, Option.some.injEq] at hi
      subst hi
      exact ⟨blk_cell (cs := [.slice a1 1 1, .string ⟨#[98]⟩, .slice a2 1 1, .string ⟨#[99]⟩]) hb (j := 0) rfl, blk_cell (cs := [.slice a1 1 1, .string ⟨#[98]⟩, .slice a2 1 1, .string ⟨#[99]⟩]) hb (j := 1) rfl⟩
    · simp only [List.getElem?_cons_succ, List.getElem?_cons_zero, Option.some.injEq] at hi
      subst hi
      exact ⟨blk_cell (cs := [.slice a1 1 1, .string ⟨#[98]⟩, .slice a2 1 1, .string ⟨#[99]⟩]) hb (j := 2) rfl, blk_cell (cs := [.slice a1 1 1, .string ⟨#[98]⟩, .slice a2 1 1, .string ⟨#[99]⟩]) hb (j := 3) rfl⟩
  · have hi2 : i = 0 ∨ i = 1 := by have := (List.getElem?_eq_some_iff.1 ht).1; simp at this; omega
    rcases hi2 with rfl | rfl
    · simp only [RAB, List.getElem?_cons_zero, Option.some.injEq] at ht hr
      subst ht hr
      exact ⟨R1.at B, rfl⟩
    · simp only [RAB, List.getElem?_cons_succ, List.getElem?_cons_zero, Option.some.injEq] at ht hr
      subst ht hr
      exact ⟨R2.at B, rfl⟩
theorem inu_abc {w : World} {uo ro : Option Addr} (R1 : Rd w (.slice uo 3 3) (ss UABC)) (R2 : RuR w (.slice ro 2 2) RAB) : InU w uo 3 3 UABC ro 2 2 RAB :=
  ⟨R1, R2, by decide, by omega, by omega, by decide⟩
theorem close_abc {l : List Str} (h1 : SS l) (h2 : ∀ x, x ∈ l ↔ DerS RAB (fun x => x ∈ [[97]]) x) (h3 : ∀ x ∈ l, x ∈ UABC) : l = UABC := by
  refine ss_ext h1 abc_ss fun x => ⟨h3 x, fun hx => (h2 x).2 ?_⟩
  have da : DerS RAB (fun x => x ∈ [[97]]) [97] := .base (by simp)
  have db : DerS RAB (fun x => x ∈ [[97]]) [98] := .rule (r := ([[97]], [98])) (by simp [RAB]) (fun y hy => by rw [List.mem_singleton.1 hy]; exact da)
  have dc : DerS RAB (fun x => x ∈ [[97]]) [99] := .rule (r := ([[98]], [99])) (by simp [RAB]) (fun y hy => by rw [List.mem_singleton.1 hy]; exact db)
  simp only [UABC, List.mem_cons, List.not_mem_nil, or_false] at hx
  rcases hx with rfl | rfl | rfl
  · exact da
  · exact db
  · exact dc

set_option maxRecDepth 100000 in
set_option maxHeartbeats 1600000 in
theorem awake_any (w : World) : Calls Try.prog 15 #[] w fun e w' => e = .returned (.bool true) ∧ Below w.heap.size w w' := by
  obtain ⟨W3, hW3⟩ : ∃ W3, W3 = ((w.alloc (.cells #[.string ⟨#[97]⟩] 9)).alloc (.cells #[.string ⟨#[98]⟩] 9)).alloc (.cells #[.slice (some ⟨w.heap.size, 0, none⟩) 1 1, .string ⟨#[98]⟩, .slice (some ⟨w.heap.size + 1, 0, none⟩) 1 1, .string ⟨#[99]⟩] 41) := ⟨_, rfl⟩
  have z3 : W3.heap.size = w.heap.size + 1 + 1 + 1 := by rw [hW3]; simp
  have B3 : Below w.heap.size w W3 := by
    rw [hW3]
    exact ((bel_alloc w _).trans ((bel_alloc _ _).mono (by simp))).trans ((bel_alloc _ _).mono (by simp; omega))
  have R3 : RuR W3 (.slice (some ⟨w.heap.size + 1 + 1, 0, none⟩) 2 2) RAB := by
    rw [hW3]
    refine rur_ab _ (by simp) ((rd_a w [97]).at (bel_alloc _ _)) ?_
    have := rd_a (w.alloc (.cells #[.string ⟨#[97]⟩] 9)) [98]
    simp only [World.size_alloc] at this
    exact this
  have HCL : Hid (Calls Try.prog 20 #[.slice (some ⟨W3.heap.size, 0, none⟩) 3 3, .slice (some ⟨w.heap.size + 1 + 1, 0, none⟩) 2 2, .slice (some ⟨W3.heap.size + 1, 0, none⟩) 1 1] ((W3.alloc (.cells #[.string ⟨#[97]⟩, .string ⟨#[98]⟩, .string ⟨#[99]⟩] 9)).alloc (.cells #[.string ⟨#[97]⟩] 9)) fun e w' => ∃ ao cap, e = .returned (.tuple #[.slice ao 3 cap, .int .i64 0]) ∧ Rd w' (.slice ao 3 cap) (ss UABC) ∧ Below W3.heap.size W3 w') := hid_of (by
    have b1 := bel_alloc W3 (.cells #[.string ⟨#[97]⟩, .string ⟨#[98]⟩, .string ⟨#[99]⟩] 9)
    have b2 := bel_alloc (W3.alloc (.cells #[.string ⟨#[97]⟩, .string ⟨#[98]⟩, .string ⟨#[99]⟩] 9)) (.cells #[.string ⟨#[97]⟩] 9)
    have b12 := b1.trans (b2.mono b1.size)
    have ra := rd_a (W3.alloc (.cells #[.string ⟨#[97]⟩, .string ⟨#[98]⟩, .string ⟨#[99]⟩] 9)) [97]
    have e : (W3.alloc (.cells #[.string ⟨#[97]⟩, .string ⟨#[98]⟩, .string ⟨#[99]⟩] 9)).heap.size = W3.heap.size + 1 := by simp
    rw [e] at ra
    refine (close_any _ 3 3 UABC _ 2 2 RAB _ 1 1 [[97]] _ (inu_abc ((rd_abc W3).at b2) (R3.at b12)) ra (by omega) abc_cws).mono ?_
    rintro ee w' ⟨l, ao, cap, rfl, h1, h2, h3, h4⟩
    have hl := close_abc h2 h3 h4
    subst hl
    exact ⟨ao, cap, rfl, own_rd h1.own, b12.trans (h1.bel.mono b12.size)⟩)
  have HAL : Hid (∀ w6, Below W3.heap.size W3 w6 → Calls Try.prog 30 #[.slice (some ⟨w6.heap.size, 0, none⟩) 3 3, .slice (some ⟨w.heap.size + 1 + 1, 0, none⟩) 2 2, .int .i64 9] (w6.alloc (.cells #[.string ⟨#[97]⟩, .string ⟨#[98]⟩, .string ⟨#[99]⟩] 9)) fun e w' => ∃ ao cap, e = .returned (.tuple #[.slice ao 4 cap, .int .i64 0]) ∧ Below w6.heap.size w6 w') := hid_of (fun w6 hb => by
    have b1 := bel_alloc w6 (.cells #[.string ⟨#[97]⟩, .string ⟨#[98]⟩, .string ⟨#[99]⟩] 9)
    refine (all_good _ 3 3 UABC _ 2 2 RAB 9 _ (inu_abc (rd_abc w6) (R3.at (hb.trans (b1.mono hb.size)))) abc_chk (by omega) (by omega) (by omega) (by rw [abc_all]; omega) (by rw [abc_all]; omega)).mono ?_
    rintro ee w' ⟨ao, cap, h1, _, h3⟩
    rw [abc_all] at h1
    exact ⟨ao, cap, h1, b1.trans (h3.mono b1.size)⟩)
  have HSM : Hid (∀ w7 ao cap, Rd w7 (.slice ao 3 cap) (ss UABC) → Calls Try.prog 22 #[.slice ao 3 cap, .slice (some ⟨w7.heap.size, 0, none⟩) 3 3] (w7.alloc (.cells #[.string ⟨#[97]⟩, .string ⟨#[98]⟩, .string ⟨#[99]⟩] 9)) fun e w' => e = .returned (.bool true) ∧ Below w7.heap.size w7 w') := hid_of (fun w7 ao cap hr => by
    have b1 := bel_alloc w7 (.cells #[.string ⟨#[97]⟩, .string ⟨#[98]⟩, .string ⟨#[99]⟩] 9)
    have := rsame_any ao 3 cap _ 3 3 UABC UABC _ (hr.at b1) (rd_abc w7)
    rw [decide_eq_true rfl] at this
    exact this.mono fun e w' ⟨h1, h2⟩ => ⟨h1, b1.trans (h2.mono b1.size)⟩)
  have HB3 := hid_of B3
  rw [z3] at HCL HAL
  have HZ := hid_of z3
  clear R3 B3 z3
  subst hW3
  go_enter Try.func15, Try.ntmps15
  go_wp2_with (first
    | (go_at_call 20; ((with_reducible refine (HCL.out).mono ?_); (rintro ee w5 ⟨co, cc, rfl, h1, h2⟩; have R5 := hid_of h1; have B5 := hid_of h2; clear h1 h2)))
    | (go_at_call 30; ((with_reducible refine (HAL.out w5 B5.out).mono ?_); (rintro ee w6 ⟨lo, lc, rfl, h1⟩; have B6 := hid_of h1; clear h1)))
    | (go_at_call 22; ((with_reducible refine (HSM.out w6 co cc ((R5.out).at B6.out)).mono ?_); (rintro ee w7 ⟨rfl, h1⟩; have B7 := hid_of h1; clear h1))))
  go_ret
  exact ⟨rfl, ((HB3.out.trans (B5.out.mono (by omega))).trans (B6.out.mono (by have := HB3.out.size; have := B5.out.size; omega))).trans (B7.out.mono (by have := HB3.out.size; have := B5.out.size; have := B6.out.size; omega))⟩
end Go.Proofs.Ytjponegeidiheaa
