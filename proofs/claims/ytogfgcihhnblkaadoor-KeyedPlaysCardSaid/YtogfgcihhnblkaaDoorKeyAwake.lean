/- The examples of the chapter of keyed: awake returns true. -/
import Derived.Test.YtogfgcihhnblkaaDoorKeyJefB
import Derived.Test.YtogfgcihhnblkaaDoorKeySign
import Derived.Test.YtogfgcihhnblkaaDoorShaGen
import Derived.Lib.SlBytesConst
import Derived.Lib.SmallJoins
namespace Go.Proofs.YtogfgcihhnblkaaDoor
open Go.RowKit

def JEFE : List Int := [74, 101, 102, 101]
def WHAT : List Int := [119, 104, 97, 116, 32, 100, 111, 32, 121, 97, 32, 119, 97, 110, 116, 32, 102, 111, 114, 32, 110, 111, 116, 104, 105, 110, 103, 63]
def SECR : List Int := [115, 101, 99, 114, 101, 116]
theorem jefe_in : xr 54 (keyBlock JEFE) ++ WHAT = jaM := by kernel_rfl
theorem jefe_out : xr 92 (keyBlock JEFE) ++ jaD = jbM := by kernel_rfl
theorem jefe_tag : hmac JEFE WHAT = jbD := by
  unfold hmac
  rw [jefe_in, ja_dig, jefe_out, jb_dig]

theorem lies_cell {w : World} {g n c : Nat} {l : List Int} (h : Lies w (.slice (some ⟨g, 0, none⟩) n c) l) (j : Nat) (y : Int) (hj : l[j]? = some y) : w.cell? ⟨g, j, none⟩ = some (.int .u8 y) := by
  obtain ⟨ao, cap, q1, q2, q3, q4⟩ := h
  have h0 : 0 < l.length := by have := (List.getElem?_eq_some_iff.1 hj).1; omega
  obtain ⟨g', o, r1, r2, r3⟩ := q4 h0
  simp only [Value.slice.injEq] at q1
  rw [r1] at q1
  simp only [Option.some.injEq, Addr.mk.injEq] at q1
  obtain ⟨⟨e1, e2, _⟩, _⟩ := q1
  subst e1 e2
  have := r3 j (.int .u8 y) (by simp [bs, hj])
  rwa [Nat.zero_add] at this
theorem new_two (w : World) (o1 o2 : Obj) : Below w.heap.size w ((w.alloc o1).alloc o2) := ((Below.refl _ _).alloc (Nat.le_refl _) o1).alloc (by simp) o2

/-- Tag of the example. -/
theorem tag_jefe (w : World) (hG : Glob w) :
    Calls Tryd.prog 12 #[.slice (some ⟨w.heap.size, 0, none⟩) 4 4, .slice (some ⟨w.heap.size + 1, 0, none⟩) 28 28]
      ((w.alloc (.cells #[.int .u8 74, .int .u8 101, .int .u8 102, .int .u8 101] 5 (4, 5))).alloc (.cells #[.int .u8 119, .int .u8 104, .int .u8 97, .int .u8 116, .int .u8 32, .int .u8 100, .int .u8 111, .int .u8 32, .int .u8 121, .int .u8 97, .int .u8 32, .int .u8 119, .int .u8 97, .int .u8 110, .int .u8 116, .int .u8 32, .int .u8 102, .int .u8 111, .int .u8 114, .int .u8 32, .int .u8 110, .int .u8 111, .int .u8 116, .int .u8 104, .int .u8 105, .int .u8 110, .int .u8 103, .int .u8 63] 5 (28, 29)))
      fun e w' => ∃ g cap, e = .returned (.slice (some ⟨g, 0, none⟩) 32 cap) ∧ 32 ≤ cap ∧ w'.cell? ⟨g, 0, none⟩ = some (.int .u8 91) ∧ w'.cell? ⟨g, 1, none⟩ = some (.int .u8 220) ∧ w'.cell? ⟨g, 30, none⟩ = some (.int .u8 56) ∧ w'.cell? ⟨g, 31, none⟩ = some (.int .u8 67) ∧ Below w.heap.size w w' := by
  have h1 : Lies (w.alloc (.cells #[.int .u8 74, .int .u8 101, .int .u8 102, .int .u8 101] 5 (4, 5))) (.slice (some ⟨w.heap.size, 0, none⟩) 4 4) JEFE := lies_new rfl rfl (by decide)
  have h2 := lies_new (w := w.alloc (.cells #[.int .u8 74, .int .u8 101, .int .u8 102, .int .u8 101] 5 (4, 5))) (l := WHAT) (n := 28) (cs := #[.int .u8 119, .int .u8 104, .int .u8 97, .int .u8 116, .int .u8 32, .int .u8 100, .int .u8 111, .int .u8 32, .int .u8 121, .int .u8 97, .int .u8 32, .int .u8 119, .int .u8 97, .int .u8 110, .int .u8 116, .int .u8 32, .int .u8 102, .int .u8 111, .int .u8 114, .int .u8 32, .int .u8 110, .int .u8 111, .int .u8 116, .int .u8 104, .int .u8 105, .int .u8 110, .int .u8 103, .int .u8 63]) (m := (28, 29)) rfl rfl (by decide)
  rw [show (w.alloc (.cells #[.int .u8 74, .int .u8 101, .int .u8 102, .int .u8 101] 5 (4, 5))).heap.size = w.heap.size + 1 by simp] at h2
  have hb := new_two w (.cells #[.int .u8 74, .int .u8 101, .int .u8 102, .int .u8 101] 5 (4, 5)) (.cells #[.int .u8 119, .int .u8 104, .int .u8 97, .int .u8 116, .int .u8 32, .int .u8 100, .int .u8 111, .int .u8 32, .int .u8 121, .int .u8 97, .int .u8 32, .int .u8 119, .int .u8 97, .int .u8 110, .int .u8 116, .int .u8 32, .int .u8 102, .int .u8 111, .int .u8 114, .int .u8 32, .int .u8 110, .int .u8 111, .int .u8 116, .int .u8 104, .int .u8 105, .int .u8 110, .int .u8 103, .int .u8 63] 5 (28, 29))
  refine (tag_any _ _ JEFE WHAT _ (h1.later (bel_alloc _ _) (Nat.le_refl _)) h2 (by decide) (by decide) (hG.bel hb hG.two) (by decide) (by decide)).mono fun e w' ⟨g, cap, he, hg, hl, hb2⟩ => ⟨g, cap, he, ?_, ?_, ?_, ?_, ?_, hb.trans (hb2.mono hb.size)⟩
  · obtain ⟨_, _, q, q1, _⟩ := hl
    simp only [Value.slice.injEq] at q
    rw [hmac_length] at q1
    omega
  all_goals rw [jefe_tag] at hl
  · exact lies_cell hl 0 91 rfl
  · exact lies_cell hl 1 220 rfl
  · exact lies_cell hl 30 56 rfl
  · exact lies_cell hl 31 67 rfl

theorem new_secr (p : Int) (w : World) :
    Calls Tryd.prog 16 #[.slice (some ⟨w.heap.size, 0, none⟩) 6 6, .int .i64 p] (w.alloc (.cells #[.int .u8 115, .int .u8 101, .int .u8 99, .int .u8 114, .int .u8 101, .int .u8 116] 5 (6, 7))) fun e w' => ∃ b, e = .returned (.pointer (some ⟨b, 0, none⟩)) ∧ Mst w.heap.size w' b SECR p 0 ∧ Below w.heap.size w w' := by
  refine (new_module _ SECR p _ (lies_new rfl rfl (by decide)) (by decide)).mono fun e w' ⟨b, he, hb1, hm, hb⟩ => ⟨b, he, ?_, bel_fst hb⟩
  obtain ⟨hB, g, n, hn, hr, hne, hBg, hl⟩ := hm
  have hsz : ∀ o : Obj, (w.alloc o).heap.size = w.heap.size + 1 := fun o => by simp
  rw [hsz] at hB hBg
  exact ⟨by omega, g, n, hn, hr, hne, by omega, hl⟩
theorem stale_x {B b : Nat} (w : World) (hm : Mst B w b SECR 3 2) :
    Calls Tryd.prog 20 #[.pointer (some ⟨b, 0, none⟩), .int .i64 1, .slice (some ⟨w.heap.size, 0, none⟩) 1 1] (w.alloc (.cells #[.int .u8 120] 5 (1, 2))) fun e w' => e = .returned (.tuple #[.slice none 0 0, .int .i64 11]) ∧ Below w.heap.size w w' :=
  (sign_stale b 3 2 1 _ SECR _ (hm.later (bel_alloc w _) (Nat.le_refl _)) (by decide) (by decide)).mono fun e w' ⟨he, hw⟩ => ⟨he, hw ▸ bel_alloc w _⟩
theorem neg_x {B b : Nat} (w : World) (hm : Mst B w b SECR 3 2) :
    Calls Tryd.prog 20 #[.pointer (some ⟨b, 0, none⟩), .int .i64 (-1), .slice (some ⟨w.heap.size, 0, none⟩) 1 1] (w.alloc (.cells #[.int .u8 120] 5 (1, 2))) fun e w' => e = .returned (.tuple #[.slice none 0 0, .int .i64 1]) ∧ Below w.heap.size w w' :=
  (sign_neg b 3 2 (-1) _ SECR _ (hm.later (bel_alloc w _) (Nat.le_refl _)) (by decide)).mono fun e w' ⟨he, hw⟩ => ⟨he, hw ▸ bel_alloc w _⟩
theorem ok_x {B b : Nat} (w : World) (hm : Mst B w b SECR 3 2) (hG : Glob w) :
    Calls Tryd.prog 20 #[.pointer (some ⟨b, 0, none⟩), .int .i64 9, .slice (some ⟨w.heap.size, 0, none⟩) 1 1] (w.alloc (.cells #[.int .u8 120] 5 (1, 2))) fun e w' => ∃ g cap, e = .returned (.tuple #[.slice (some ⟨g, 0, none⟩) 32 cap, .int .i64 0]) ∧ 32 ≤ cap ∧ cap ≤ 9223372036854775807 ∧ Lies w' (.slice (some ⟨g, 0, none⟩) 32 cap) (hmac (derive SECR 3 9) [120]) ∧ Below w.heap.size w w' := by
  refine (sign_ok b SECR [120] 3 2 9 _ _ (hm.later (bel_alloc w _) (Nat.le_refl _)) (by decide) (by decide) (by decide) (lies_new rfl rfl (by decide)) (by decide) (by decide) (by decide) (hG.bel (bel_alloc w _) hG.two) (by decide) (by decide)).mono fun e w' ⟨g, cap, he, hg, hl, hb⟩ => ⟨g, cap, he, ?_, ?_, hl, bel_fst hb⟩
  · obtain ⟨_, _, q, q1, q2, _⟩ := hl
    simp only [Value.slice.injEq] at q
    rw [hmac_length] at q1
    omega
  · obtain ⟨_, _, q, q1, q2, _⟩ := hl
    simp only [Value.slice.injEq] at q
    omega
theorem ver_x (B b : Nat) (w : World) (v : Value) (t : List Int) (r : Bool) (hm : Mst B w b SECR 4 0) (hG : Glob w) (hv : Lies w v t) (htr : ∀ y ∈ t, 0 ≤ y ∧ y ≤ 255) (hr : r = decide (t = hmac (derive SECR 3 9) [120])) :
    Calls Tryd.prog 22 #[.pointer (some ⟨b, 0, none⟩), .int .i64 3, .int .i64 9, .slice (some ⟨w.heap.size, 0, none⟩) 1 1, v] (w.alloc (.cells #[.int .u8 120] 5 (1, 2))) fun e w' => e = .returned (.bool r) ∧ Below w.heap.size w w' := by
  subst hr
  exact (verify_any b SECR [120] t 4 0 3 9 _ v _ (hm.later (bel_alloc w _) (Nat.le_refl _)) (by decide) (lies_new rfl rfl (by decide)) (by decide) (hv.later (bel_alloc w _) (Nat.le_refl _)) htr (by decide) (by decide) (hG.bel (bel_alloc w _) hG.two) (by decide) (by decide)).mono fun e w' ⟨he, hb⟩ => ⟨he, bel_fst hb⟩
/-- A part of a slice. -/
theorem lies_tail {w : World} {g n c : Nat} {l : List Int} (h : Lies w (.slice (some ⟨g, 0, none⟩) n c) l) (hn : 1 ≤ n) : Lies w (.slice (some ⟨g, 1, none⟩) (n - 1) (c - 1)) (l.drop 1) := by
  obtain ⟨ao, cap, q1, q2, q3, q4⟩ := h
  simp only [Value.slice.injEq] at q1
  obtain ⟨e1, e2, e3⟩ := q1
  subst e2 e3
  obtain ⟨g', o, r1, r2, r3⟩ := q4 (by omega)
  rw [r1] at e1
  simp only [Option.some.injEq, Addr.mk.injEq] at e1
  obtain ⟨e4, e5, _⟩ := e1
  subst e4 e5
  refine ⟨_, _, by rw [List.length_drop], by rw [List.length_drop]; omega, by omega, fun _ => ⟨g, 1, rfl, r2, fun j u hu => ?_⟩⟩
  have h2 : (bs l)[1 + j]? = some u := by
    have : bs (l.drop 1) = (bs l).drop 1 := by simp [bs]
    rw [this, List.getElem?_drop] at hu
    exact hu
  have := r3 (1 + j) u h2
  rwa [Nat.zero_add] at this

set_option maxRecDepth 100000 in
set_option maxHeartbeats 1600000 in
theorem awake_any (w : World) (hG : Glob w) : Calls Tryd.prog 10 #[] w fun e w' => e = .returned (.bool true) ∧ Below w.heap.size w w' := by
  have HG := hid_of hG
  have H2 : Hid (2 ≤ w.heap.size) := hid_of hG.two
  have TAG := hid_of tag_jefe
  have NEW := hid_of new_secr
  have VER := hid_of ver_x
  obtain ⟨T, hT⟩ : ∃ T, T = hmac (derive SECR 3 9) [120] := ⟨_, rfl⟩
  have HTR : Hid (∀ y ∈ T, 0 ≤ y ∧ y ≤ 255) := hid_of (by rw [hT]; exact hmac_rng _ _)
  have HTR1 : Hid (∀ y ∈ T.drop 1, 0 ≤ y ∧ y ≤ 255) := hid_of (fun y hy => HTR.out y (List.mem_of_mem_drop hy))
  have HT1 : Hid (true = decide (T = hmac (derive SECR 3 9) [120])) := hid_of (by simp [hT])
  have HT2 : Hid (false = decide (T.drop 1 = hmac (derive SECR 3 9) [120])) := hid_of (by
    have : T.drop 1 ≠ hmac (derive SECR 3 9) [120] := fun e => by
      have e2 := congrArg List.length e
      rw [List.length_drop, hT, hmac_length] at e2
      omega
    exact (decide_eq_false this).symm)
  have HOK : Hid (∀ (B b : Nat) (w : World), Mst B w b SECR 3 2 → Glob w → Calls Tryd.prog 20 #[.pointer (some ⟨b, 0, none⟩), .int .i64 9, .slice (some ⟨w.heap.size, 0, none⟩) 1 1] (w.alloc (.cells #[.int .u8 120] 5 (1, 2))) fun e w' => ∃ g cap, e = .returned (.tuple #[.slice (some ⟨g, 0, none⟩) 32 cap, .int .i64 0]) ∧ 32 ≤ cap ∧ cap ≤ 9223372036854775807 ∧ Lies w' (.slice (some ⟨g, 0, none⟩) 32 cap) T ∧ Below w.heap.size w w') := hid_of (fun _ _ w h1 h2 => by rw [hT]; exact ok_x w h1 h2)
  clear hG hT
  have kc := fun (w : World) (C : Array Value) (n c : Nat) => Lib.run_convert_bytes_const (P := Tryd.prog) w 22 5 C n c Tryd.underlying22 Tryd.underlying5
  have kc2 := fun (o : Obj) (C : Array Value) (n c : Nat) => Go.Joins.run_convert_bytes_const_at (P := Tryd.prog) (w.alloc o) 22 5 C n c (w.heap.size + 1) (by simp) Tryd.underlying22 Tryd.underlying5
  go_enter Tryd.func10, Tryd.ntmps10
  go_wp2_with (first
    | (go_at_call 12; refine (TAG.out w HG.out).mono ?_; rintro e w1 ⟨g1, cap1, rfl, hc1, x0, x1, x30, x31, hb1⟩; have HB1 := hid_of hb1; clear hb1)
    | (go_at_call 16; (first
        | ((with_reducible refine (NEW.out 3 w1).mono ?_); (rintro e w2 ⟨bm, rfl, hm2, hb2⟩; have HM2 := hid_of hm2; have HB2 := hid_of (HB1.out.trans (hb2.mono HB1.out.size)); clear hm2 hb2 x0 x1 x30 x31))
        | ((with_reducible refine (NEW.out 4 w2).mono ?_); (rintro e w3 ⟨bk, rfl, hm3, hb3⟩; have HM3 := hid_of (HM2.out.later hb3 (Nat.le_refl _)); have HK3 := hid_of hm3; have HB3 := hid_of (HB2.out.trans (hb3.mono HB2.out.size)); clear hm3 hb3))))
    | (go_at_call 19; refine (raise_any bm SECR 3 0 2 w3 HM3.out).mono ?_; rintro e w4 ⟨rfl, hm4, hk4⟩; have HM4 : Hid (Mst w1.heap.size w4 bm SECR 3 2) := hid_of hm4; have HK4 := hid_of (HK3.out.kept hk4 HM2.out.lt); have HB4 := hid_of (HB3.out.trans (hk4.below HB3.out.size (fun k hk => by have := HM3.out.1; have := HB1.out.size; omega))); clear hm4 hk4)
    | (go_at_call 20; (first
        | ((with_reducible refine (stale_x w4 HM4.out).mono ?_); (rintro e w5 ⟨rfl, hb5⟩; have HM5 := hid_of (HM4.out.later hb5 (Nat.le_refl _)); have HK5 := hid_of (HK4.out.later hb5 (Nat.le_refl _)); have HB5 := hid_of (HB4.out.trans (hb5.mono HB4.out.size)); clear hb5))
        | ((with_reducible refine (neg_x w5 HM5.out).mono ?_); (rintro e w6 ⟨rfl, hb6⟩; have HM6 := hid_of (HM5.out.later hb6 (Nat.le_refl _)); have HK6 := hid_of (HK5.out.later hb6 (Nat.le_refl _)); have HB6 := hid_of (HB5.out.trans (hb6.mono HB5.out.size)); clear hb6))
        | ((with_reducible refine (HOK.out _ bm w6 HM6.out (HG.out.bel HB6.out H2.out)).mono ?_); (rintro e w7 ⟨g7, cap7, rfl, hc7, hc8, hl7, hb7⟩; have HL7 := hid_of hl7; have HM7 := hid_of (HM6.out.later hb7 (Nat.le_refl _)); have HK7 := hid_of (HK6.out.later hb7 (Nat.le_refl _)); have HB7 := hid_of (HB6.out.trans (hb7.mono HB6.out.size)); clear hl7 hb7))))
    | (go_at_call 18; refine (height_any bm SECR 3 2 w7 HM7.out).mono ?_; rintro e w' ⟨rfl, rfl⟩)
    | (go_at_call 17; refine (proc_any bm SECR 3 2 w7 HM7.out).mono ?_; rintro e w' ⟨rfl, rfl⟩)
    | (go_at_call 22; (first
        | ((with_reducible refine (VER.out _ bk w7 (.slice (some ⟨g7, 0, none⟩) 32 cap7) T true HK7.out (HG.out.bel HB7.out H2.out) HL7.out HTR.out HT1.out).mono ?_); (rintro e w8 ⟨rfl, hb8⟩; have HL8 := hid_of (HL7.out.later hb8 (Nat.le_refl _)); have HK8 := hid_of (HK7.out.later hb8 (Nat.le_refl _)); have HB8 := hid_of (HB7.out.trans (hb8.mono HB7.out.size)); clear hb8))
        | ((with_reducible refine (VER.out _ bk w8 (.slice (some ⟨g7, 1, none⟩) 31 (cap7 - 1)) (T.drop 1) false HK8.out (HG.out.bel HB8.out H2.out) (lies_tail HL8.out (by omega)) HTR1.out HT2.out).mono ?_); (rintro e w9 ⟨rfl, hb9⟩; have HB9 := hid_of (HB8.out.trans (hb9.mono HB8.out.size)); clear hb9)))))
  trace_state
  go_ret
  exact ⟨rfl, HB9.out⟩
end Go.Proofs.YtogfgcihhnblkaaDoor
