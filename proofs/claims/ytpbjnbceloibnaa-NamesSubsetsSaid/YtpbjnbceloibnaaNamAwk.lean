/- The chapter's examples. No condition. -/
import Derived.Test.YtpbjnbceloibnaaNamTxr
namespace Go.Proofs.Ytpbjnbceloibnaa
open Go.RowKit

theorem ss_two : SS [[97], [98]] := by
  refine List.pairwise_cons.2 ⟨fun y hy => ?_, List.pairwise_singleton _ _⟩
  rw [List.mem_singleton.1 hy]; decide
theorem set_bab : setOf [[98], [97], [98]] = [[97], [98]] := setOf_eq ss_two (fun x => by
  simp only [List.mem_cons, List.not_mem_nil, or_false]
  constructor
  · rintro (h | h) <;> simp [h]
  · rintro (h | h | h) <;> simp [h])
theorem set_ba : setOf [[98], [97]] = [[97], [98]] := setOf_eq ss_two (fun x => by
  simp only [List.mem_cons, List.not_mem_nil, or_false]
  constructor
  · rintro (h | h) <;> simp [h]
  · rintro (h | h) <;> simp [h])
theorem txt_bab : ba (txt [[98], [97], [98]]) = ⟨#[123, 97, 44, 98, 125]⟩ := by
  unfold txt; rw [set_bab]; rfl
theorem par1 : parseF ⟨#[32, 123, 32, 98, 32, 44, 32, 97, 32, 125, 32]⟩ = ⟨setOf [[98], [97]], 0, 0⟩ := by rfl
theorem par2 : parseF ⟨#[123, 97, 44, 125]⟩ = bad 3 2 := by rfl
theorem par3 : parseF ⟨#[123, 97, 44, 57, 125]⟩ = bad 3 3 := by rfl
theorem val1 : isName (strBytes ⟨#[97, 45, 49]⟩) = true := by rfl
theorem val2 : isName (strBytes ⟨#[49, 97]⟩) = false := by rfl
theorem parse_lit (s : ByteArray) (l : List Str) (p : Nat) (c : Int) (h : parseF s = ⟨l, p, c⟩) (hs : s.size ≤ 1000000) (w : World) :
    Calls Try.prog 34 #[.string s] w fun e w' => ∃ xo xc, e = .returned (.tuple #[.slice xo l.length xc, .int .i64 p, .int .i64 c]) ∧ Ow 9 w.heap.size w w' (.slice xo l.length xc) (ss l) := by
  have := parse_any s w hs
  rw [h] at this
  exact this

theorem rd_lit {w : World} {l : List Str} {n : Nat} {cs : Array Value} (hn : n = l.length) (hc : cs = (ss l).toArray) (h : l.length ≤ 1000) : Rd (w.alloc (.cells cs 9)) (.slice (some ⟨w.heap.size, 0, none⟩) n n) (ss l) :=
  rd_new (by rw [hn, ss_length]) hc (by rw [ss_length]; omega)
theorem rd_ab (w : World) : Rd (w.alloc (.cells #[.string ⟨#[97]⟩, .string ⟨#[98]⟩] 9)) (.slice (some ⟨w.heap.size, 0, none⟩) 2 2) (ss [[97], [98]]) := rd_lit rfl rfl (by simp)
set_option maxRecDepth 100000 in
set_option maxHeartbeats 1600000 in
theorem awake_any (w : World) : Calls Try.prog 12 #[] w fun e w' => e = .returned (.bool true) ∧ Below w.heap.size w w' := by
  have L1 : Hid (Rd (w.alloc (.cells #[.string ⟨#[98]⟩, .string ⟨#[97]⟩, .string ⟨#[98]⟩] 9)) (.slice (some ⟨w.heap.size, 0, none⟩) 3 3) (ss [[98], [97], [98]])) := hid_of (rd_lit rfl rfl (by simp))
  have B1 := hid_of (bel_alloc w (.cells #[.string ⟨#[98]⟩, .string ⟨#[97]⟩, .string ⟨#[98]⟩] 9))
  have TX : Hid (Calls Try.prog 32 #[.slice (some ⟨w.heap.size, 0, none⟩) 3 3] (w.alloc (.cells #[.string ⟨#[98]⟩, .string ⟨#[97]⟩, .string ⟨#[98]⟩] 9)) fun e w' => e = .returned (.tuple #[.string ⟨#[123, 97, 44, 98, 125]⟩, .int .i64 0]) ∧ Below (w.alloc (.cells #[.string ⟨#[98]⟩, .string ⟨#[97]⟩, .string ⟨#[98]⟩] 9)).heap.size (w.alloc (.cells #[.string ⟨#[98]⟩, .string ⟨#[97]⟩, .string ⟨#[98]⟩] 9)) w') := hid_of (by
    have := text_ok _ 3 3 [[98], [97], [98]] _ L1.out (by simp) (by intro x hx; simp only [List.mem_cons, List.not_mem_nil, or_false] at hx; rcases hx with rfl | rfl | rfl <;> rfl)
    rw [txt_bab] at this
    exact this)
  have PA : Hid (∀ w, Calls Try.prog 34 #[.string ⟨#[32, 123, 32, 98, 32, 44, 32, 97, 32, 125, 32]⟩] w fun e w' => ∃ xo xc, e = .returned (.tuple #[.slice xo 2 xc, .int .i64 0, .int .i64 0]) ∧ Ow 9 w.heap.size w w' (.slice xo 2 xc) (ss [[97], [98]])) := hid_of (fun w => parse_lit _ [[97], [98]] 0 0 (par1.trans (by rw [set_ba])) (by decide) w)
  have PB : Hid (∀ w, Calls Try.prog 34 #[.string ⟨#[123, 97, 44, 125]⟩] w fun e w' => ∃ xo xc, e = .returned (.tuple #[.slice xo 0 xc, .int .i64 3, .int .i64 2]) ∧ Ow 9 w.heap.size w w' (.slice xo 0 xc) (ss [])) := hid_of (fun w => parse_lit _ [] 3 2 par2 (by decide) w)
  have PC : Hid (∀ w, Calls Try.prog 34 #[.string ⟨#[123, 97, 44, 57, 125]⟩] w fun e w' => ∃ xo xc, e = .returned (.tuple #[.slice xo 0 xc, .int .i64 3, .int .i64 3]) ∧ Ow 9 w.heap.size w w' (.slice xo 0 xc) (ss [])) := hid_of (fun w => parse_lit _ [] 3 3 par3 (by decide) w)
  have SM : Hid (∀ xo xc b w, Rd w (.slice xo 2 xc) (ss [[97], [98]]) → Rd w (.slice (some ⟨b, 0, none⟩) 2 2) (ss [[97], [98]]) → Calls Try.prog 25 #[.slice xo 2 xc, .slice (some ⟨b, 0, none⟩) 2 2] w fun e w' => e = .returned (.bool true) ∧ Below w.heap.size w w') := hid_of (fun xo xc b w R1 R2 => rsame_any xo 2 xc _ 2 2 _ _ w R1 R2)
  have V1 : Hid (∀ w, Calls Try.prog 13 #[.string ⟨#[97, 45, 49]⟩] w fun e w' => e = .returned (.bool true) ∧ w = w') := hid_of (fun w => by
    have := valid_any ⟨#[97, 45, 49]⟩ w (by decide)
    rw [val1] at this; exact this.mono fun _ _ h => ⟨h.1, h.2.symm⟩)
  have V2 : Hid (∀ w, Calls Try.prog 13 #[.string ⟨#[49, 97]⟩] w fun e w' => e = .returned (.bool false) ∧ w = w') := hid_of (fun w => by
    have := valid_any ⟨#[49, 97]⟩ w (by decide)
    rw [val2] at this; exact this.mono fun _ _ h => ⟨h.1, h.2.symm⟩)
  go_enter Try.func12, Try.ntmps12
  go_wp2_with (first
    | (go_at_call 32; ((with_reducible refine (TX.out).mono ?_); (rintro ee w1 ⟨rfl, h1⟩; have BW := hid_of (B1.out.trans (h1.mono (by simp))); clear h1)))
    | (go_at_call 34; (first
      | ((with_reducible refine (PA.out w1).mono ?_); (rintro ee w2 ⟨xo2, xc2, rfl, h1⟩; have O2 := hid_of h1; clear h1))
      | ((with_reducible refine (PB.out w2).mono ?_); (rintro ee w3 ⟨xo3, xc3, rfl, h1⟩; have O3 := hid_of h1; clear h1))
      | ((with_reducible refine (PC.out w3).mono ?_); (rintro ee w4 ⟨xo4, xc4, rfl, h1⟩; have O4 := hid_of h1; clear h1))))
    | (go_at_call 25; ((with_reducible refine (SM.out xo2 xc2 w4.heap.size (w4.alloc (.cells #[.string ⟨#[97]⟩, .string ⟨#[98]⟩] 9)) ((O2.out.rd (by decide)).at ((step_b O3.out.bel O4.out.bel O3.out.size).trans ((bel_alloc w4 _).mono (by have := O4.out.size; have := O3.out.size; have := O4.out.bel.size; have := O3.out.bel.size; omega)))) (rd_ab w4)).mono ?_); (rintro ee w5 ⟨rfl, h1⟩; have B5 := hid_of h1; clear h1)))
    | (go_at_call 13; (first
      | ((with_reducible refine (V1.out _).mono ?_); (rintro ee w' ⟨rfl, rfl⟩))
      | ((with_reducible refine (V2.out _).mono ?_); (rintro ee w' ⟨rfl, rfl⟩)))))
  go_ret
  exact ⟨rfl, (step_b (step_b BW.out (step_b O2.out.bel (step_b O3.out.bel O4.out.bel O3.out.size) O2.out.size) BW.out.size) ((bel_alloc w4 _).trans (B5.out.mono (by simp))) (by have := O4.out.size; have := O3.out.size; have := O2.out.size; have := BW.out.size; have := O4.out.bel.size; have := O3.out.bel.size; have := O2.out.bel.size; omega))⟩
end Go.Proofs.Ytpbjnbceloibnaa
