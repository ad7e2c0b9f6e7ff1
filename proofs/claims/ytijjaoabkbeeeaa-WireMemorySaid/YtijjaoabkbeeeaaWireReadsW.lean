/- The walk of WireReads. No condition. -/
import Derived.Test.YtijjaoabkbeeeaaWireGet
namespace Go.Proofs.Ytijjaoabkbeeeaa
open Go.RowKit

theorem encAll_rng (its : List It) (h : ∀ x ∈ its, ∀ y ∈ x.m, 0 ≤ y ∧ y ≤ 255) : ∀ y ∈ encAll its, 0 ≤ y ∧ y ≤ 255 := by
  intro y hy
  obtain ⟨x, hx, hy2⟩ := List.mem_flatMap.1 hy
  exact rng_encIt x (h x hx) y hy2
theorem keep_row {w : World} {g : Nat} {x o : Obj} (h : w.heap[g]? = some x) : (w.alloc o).heap[g]? = some x := (Below.heap_alloc _ _ _ (lt_of_block h)).trans h
theorem src_row {w : World} {g : Nat} {l : List Int} (h : w.heap[g]? = some (.cells (bs l).toArray 5 (0, 0))) : Src Try.prog 1 25 (.slice (some ⟨g, 0, none⟩) l.length l.length) l.length (bs l) w :=
  src_slice _ l _ w (row_src h) (fun h => by cases h)
theorem tail_src {w w' : World} {to : Option Addr} {tl : List Int} {tcap b0 : Nat} (h : 0 < tl.length → ∃ ad, to = some ad ∧ ad.block < w.heap.size ∧ ∀ j u, (bs tl)[j]? = some u → w.cell? (ad.add j) = some u) (hn : to = none → tcap = 0) (hb : Below w.heap.size w w') :
    Src Try.prog 1 25 (.slice to tl.length tcap) tl.length (bs tl) w' :=
  src_slice to tl tcap w' (fun h0 => by
    obtain ⟨ad, h1, h2, h3⟩ := h h0
    refine ⟨ad, h1, fun j u hu => ?_⟩
    rw [hb.cell (by rw [add_block]; exact h2)]
    exact h3 j u hu) hn
theorem written_any_E (a o : Nat) (its : List It) (cap : Nat) (E : List Int) (w : World) (hE : E = encAll its) (h : Items w.heap.size w a o its) (hn : its.length ≤ 100000000000) (hL : ∀ k, (encAll (its.take k)).length ≤ 60000000000000) :
    Calls Try.prog 12 #[.slice (some ⟨a, o, none⟩) its.length cap] w fun e w' => ∃ g, e = .returned (.slice (some ⟨g, 0, none⟩) E.length E.length) ∧
      w'.heap[g]? = some (.cells (bs E).toArray 5 (0, 0)) ∧ w.heap.size ≤ g ∧ Below w.heap.size w w' := by
  subst hE; exact written_any a o its cap w h hn hL
theorem OS.own0 {B : Nat} {w0 w : World} {v : Value} (h : OS B w0 w v []) : w.ownsRow B 5 1 v 0 (bs []) := h.own
theorem os_first {B : Nat} {w0 w w' : World} {v v' : Value} {m : List Int} (h : OS B w0 w v []) (hown : w'.ownsRow B 5 1 v' (0 + m.length) (bs [] ++ bs m)) (hg : w.grownBy w' v.ownBlock) : OS B w0 w' v' m := by
  have := h.app hown rfl hg
  rwa [List.nil_append] at this
theorem os_reader {B n cap : Nat} {w0 w : World} {ao : Option Addr} {l : List Int} (h : OS B w0 w (.slice ao n cap) l) (hn : l.length = n) : 0 < l.length → ∃ ad, ao = some ad ∧ ∀ j v, (bs l)[j]? = some v → w.cell? (ad.add j) = some v := by
  subst hn; exact own_src h.own
theorem newReader_n (ao : Option Addr) (l : List Int) (n cap : Nat) (w : World) (hn : l.length = n) (hr : ∀ x ∈ l, 0 ≤ x ∧ x ≤ 255) (hl : l.length ≤ 140737488351232)
    (hpos : 0 < l.length → ∃ ad, ao = some ad ∧ ∀ j v, (bs l)[j]? = some v → w.cell? (ad.add j) = some v) :
    Calls Try.prog 14 #[.slice ao n cap] w fun e w' => ∃ b g, e = .returned (.pointer (some ⟨b, 0, none⟩)) ∧ Rst w' b g l 0 0 0 ∧ Below w.heap.size w w' ∧ w.heap.size ≤ b ∧ w.heap.size ≤ g := by
  subst hn; exact newReader_any ao l cap w hr hl hpos

theorem reads_bel {w w1 w2 w4 w5 : World} (h1 : Below w.heap.size w w1) (h2 : Below w1.heap.size w1 w2) (h3 : Below w2.heap.size w2 w4) (h4 : Below w4.heap.size w4 w5) : Below w.heap.size w w5 :=
  ((h1.trans (h2.mono h1.size)).trans (h3.mono (Nat.le_trans h1.size h2.size))).trans (h4.mono (Nat.le_trans h1.size (Nat.le_trans h2.size h3.size)))
theorem reads_keep {w wr w6 : World} {b : Nat} (h : Below w.heap.size w wr) (hk : Kept (fun k => k = b) wr w6) (hb : w.heap.size ≤ b) : Below w.heap.size w w6 :=
  h.trans (hk.below h.size (fun k hk => by omega))
theorem reads_off {w wr : World} {b : Nat} {x : It} (h : ItOk w.heap.size w x) (hb : Below w.heap.size w wr) (hbb : w.heap.size ≤ b) : Off wr b x.ao x.m := fun h0 => by
  obtain ⟨ad, h1, h2, h3⟩ := h.src h0
  refine ⟨ad, h1, Nat.lt_of_lt_of_le h2 hb.size, by omega, fun j u hu => ?_⟩
  rw [hb.cell (by rw [add_block]; exact h2)]
  exact h3 j u hu
theorem reads_drop {its : List It} {E tl : List Int} {k : Nat} {x : It} (hE : E = encAll its) (hx : its[k]? = some x) : (E ++ tl).drop (encAll (its.take k)).length = encIt x ++ (encAll (its.drop (k + 1)) ++ tl) := by
  have hk := (List.getElem?_eq_some_iff.1 hx).1
  have h1 : its = its.take k ++ x :: its.drop (k + 1) := by
    rw [← (List.getElem?_eq_some_iff.1 hx).2, ← List.drop_eq_getElem_cons hk, List.take_append_drop]
  have h2 : encAll its = encAll (its.take k) ++ (encIt x ++ encAll (its.drop (k + 1))) := by
    conv => lhs; rw [h1]
    unfold encAll
    rw [List.flatMap_append, List.flatMap_cons]
  rw [hE, h2, List.append_assoc, List.drop_left, List.append_assoc]
theorem left_tl (b g last : Nat) (E tl : List Int) (w : World) (h : Rst w b g (E ++ tl) E.length last 0) :
    Calls Try.prog 18 #[.pointer (some ⟨b, 0, none⟩)] w fun e w' => e = .returned (.int .i64 (tl.length : Int)) ∧ Drew w w' := by
  refine (left_any b g E.length last (E ++ tl) 0 w h).mono fun e w' ⟨h1, h2⟩ => ⟨?_, h2⟩
  rw [h1, show (E ++ tl).length - E.length = tl.length by rw [List.length_append]; omega]

set_option maxRecDepth 100000 in
set_option maxHeartbeats 3200000 in
theorem reads_small (a o : Nat) (its : List It) (cap : Nat) (to : Option Addr) (tl : List Int) (tcap : Nat) (w : World) (h : Items w.heap.size w a o its) (hs : Small its) (ht : tl.length ≤ 2000) (htn : to = none → tcap = 0) (htr : ∀ y ∈ tl, 0 ≤ y ∧ y ≤ 255)
    (hts : 0 < tl.length → ∃ ad, to = some ad ∧ ad.block < w.heap.size ∧ ∀ j u, (bs tl)[j]? = some u → w.cell? (ad.add j) = some u) :
    Calls Try.prog 4 #[.slice (some ⟨a, o, none⟩) its.length cap, .slice to tl.length tcap] w fun e w' => e = .returned (.bool true) ∧ Below w.heap.size w w' := by
  obtain ⟨i0, hi, hz0, hz1, hz2⟩ := info_parts Try.infoU8
  have hEl0 : (encAll its).length ≤ 60000000000000 := by have := small_bound its (fun x hx => (h.ok x hx).n) hs its.length; rwa [List.take_length] at this
  have hEr0 : ∀ y ∈ encAll its, 0 ≤ y ∧ y ≤ 255 := encAll_rng its fun x hx => (h.ok x hx).rng
  have hlen := hs.1
  have HB := hid_of (small_bound its (fun x hx => (h.ok x hx).n) hs)
  have HI := hid_of h
  have HS := hid_of hs
  clear h hs
  have HT := hid_of htr
  have HTS := hid_of hts
  have HTN := hid_of htn
  obtain ⟨E, hE⟩ : ∃ E, E = encAll its := ⟨_, rfl⟩
  have HE := hid_of hE
  have hEl : E.length ≤ 60000000000000 := by rw [hE]; exact hEl0
  have HER : Hid (∀ y ∈ E, 0 ≤ y ∧ y ≤ 255) := hid_of (by rw [hE]; exact hEr0)
  clear hE hEl0 hEr0 htr hts htn
  have HD : Hid (∀ y ∈ E ++ tl, 0 ≤ y ∧ y ≤ 255) := hid_of fun y hy => (List.mem_append.1 hy).elim (HER.out y) (HT.out y)
  have HNL : Hid ((E ++ tl).length = E.length + tl.length) := hid_of List.length_append
  have HDL : Hid ((E ++ tl).length ≤ 140737488351232) := hid_of (by rw [List.length_append]; omega)
  go_enter Try.func4, Try.ntmps4
  go_wp2_with (first
    | (go_at_call 10; refine (awake_any w).mono ?_; rintro e w1 ⟨rfl, h1⟩; have H1 := hid_of h1; clear h1)
    | (go_at_call 11; refine (small_true a o its cap w1 (by omega) (HI.out.later H1.out H1.out.size) HS.out).mono ?_; rintro e w' ⟨rfl, rfl⟩)
    | (go_at_call 12; refine (written_any_E a o its cap E w1 HE.out (HI.out.later H1.out H1.out.size) (by omega) HB.out).mono ?_; rintro e w2 ⟨g2, rfl, hr2, _, hb2⟩; have HR2 := hid_of hr2; have HB2 := hid_of hb2; have HO := hid_of (OS.empty w2); have HSE := hid_of (src_row (keep_row (o := .cells #[] 5) hr2)); clear hr2 hb2)
    | ((with_reducible refine wpList_append_src _ rfl (.tmp 20) (.tmp 21) 25 25 rfl w2.heap.size 5 i0 (.int .u8 0) 1 1 Try.underlying25 hi hz0 hz1 hz2 rfl (by decide) (.slice (some ⟨w2.heap.size, 0, none⟩) 0 0) 0 (bs []) rfl (OS.own0 HO.out) (.slice (some ⟨g2, 0, none⟩) E.length E.length) E.length (bs E) rfl HSE.out (by unfold maxLen; omega) (by omega) (OS.size HO.out) ?_); intro v3 w3 hown3 hg3 _ _; have H3 := hid_of (os_first HO.out hown3 hg3); have HST := hid_of (tail_src (b0 := w2.heap.size) HTS.out HTN.out ((H1.out.trans (HB2.out.mono H1.out.size)).trans (H3.out.bel.mono (Nat.le_trans H1.out.size HB2.out.size)))); obtain ⟨ao3, cap3, rfl⟩ := own_shape (OS.own H3.out); clear hown3 hg3)
    | ((with_reducible refine wpList_append_src _ rfl (.tmp 22) (.tmp 23) 25 25 rfl w2.heap.size 5 i0 (.int .u8 0) 1 1 Try.underlying25 hi hz0 hz1 hz2 rfl (by decide) (.slice ao3 E.length cap3) E.length (bs E) rfl (OS.own H3.out) (.slice to tl.length tcap) tl.length (bs tl) rfl HST.out (by unfold maxLen; omega) (by omega) (OS.size H3.out) ?_); intro v4 w4 hown4 hg4 _ _; have H4 := hid_of (OS.app H3.out hown4 rfl hg4); obtain ⟨ao4, cap4, rfl⟩ := own_shape hown4; clear hown4 hg4)
    | (go_at_call 14; refine (newReader_n ao4 (E ++ tl) (E.length + tl.length) cap4 w4 HNL.out HD.out HDL.out (os_reader H4.out HNL.out)).mono ?_; rintro e w5 ⟨b, g, rfl, h5, hb5, hbb, _⟩; have H5 := hid_of h5; have HB5 := hid_of hb5; have HBB := hid_of hbb; clear h5 hb5 hbb))
  have HBL := hid_of (reads_bel H1.out HB2.out (OS.bel H4.out) HB5.out)
  have HBW : Hid (w.heap.size ≤ b) := hid_of (by have := HBB.out; have := H1.out.size; have := HB2.out.size; have := (OS.bel H4.out).size; omega)
  go_loopw [7] (fun iv wr => ∃ k : Nat, k ≤ its.length ∧ iv = .int .i64 k ∧ Hid ((∃ last, Rst wr b g (E ++ tl) (encAll (its.take k)).length last 0) ∧ Below w.heap.size w wr)) (fun i _ => its.length - (intOf i).toNat)
  case atStart => exact ⟨0, Nat.zero_le _, rfl, hid_of ⟨⟨0, H5.out⟩, HBL.out⟩⟩
  case round =>
    obtain ⟨k, hk, rfl, hinv⟩ := hrel
    obtain ⟨⟨last, hR⟩, hbel⟩ := hinv.out
    have HRR := hid_of hR
    have HBR := hid_of hbel
    clear hinv hR
    by_cases hlt : k < its.length
    · obtain ⟨x, hx⟩ : ∃ x, its[k]? = some x := ⟨its[k], by simp [hlt]⟩
      have ha := HI.out.lt (by omega)
      have c0 := (hbel.cell (p := ⟨a, o + k * 3, none⟩) ha).trans (HI.out.c0 k x hx)
      have c1 := (hbel.cell (p := ⟨a, o + k * 3 + 1, none⟩) ha).trans (HI.out.c1 k x hx)
      have c2 := (hbel.cell (p := ⟨a, o + k * 3 + 2, none⟩) ha).trans (HI.out.c2 k x hx)
      have hok := HI.out.ok x (List.mem_of_getElem? hx)
      have HOK := hid_of hok
      have HOFF := hid_of (reads_off hok hbel HBW.out)
      have HDR := hid_of (reads_drop (tl := tl) HE.out hx)
      have HX := hid_of hx
      clear hx hbel hok
      go_wp2_with (first
        | (go_at_call 15; refine (get_any x b g (encAll (its.take k)).length last (E ++ tl) _ wr HRR.out HOK.out.n HOK.out.len HOFF.out HDR.out).mono ?_; rintro e w6 ⟨rfl, last6, h6, hk6⟩; have H6 := hid_of h6; have HK6 := hid_of hk6; clear h6 hk6)
        | (go_at_call 16; refine (err_any b g ((encAll (its.take k)).length + (encIt x).length) last6 (E ++ tl) 0 w6 H6.out).mono ?_; rintro e w' ⟨rfl, rfl⟩))
      go_roundw
      case rel =>
        refine ⟨k + 1, by omega, by go_num, hid_of ⟨⟨last6, ?_⟩, ?_⟩⟩
        · rw [encAll_take_succ its k x HX.out, List.length_append]; exact H6.out
        · exact reads_keep HBR.out HK6.out HBW.out
      case measure => simp [intOf]; omega
    · obtain rfl : k = its.length := by omega
      rw [List.take_length, ← HE.out] at HRR
      clear hbel
      by_cases h0 : tl.length = 0
      · have e0 : ((tl.length : Int) == 0) = true := beq_iff_eq.2 (by omega)
        go_wp2_with (first
          | (go_at_call 17; refine (offset_any b g E.length last (E ++ tl) 0 wr HRR.out).mono ?_; rintro e w' ⟨rfl, rfl⟩)
          | (go_at_call 18; refine (left_tl b g last E tl wr HRR.out).mono ?_; rintro e w' ⟨rfl, m7, rfl⟩)
          | (go_at_call 19; refine (end_ok b g E.length last (E ++ tl) _ (HRR.out.drewN m7) (by rw [List.length_append]; omega)).mono ?_; rintro e w' ⟨rfl, m8, rfl⟩))
        go_ret
        exact ⟨rfl, below_drewN HBR.out _⟩
      · have e0 : ((tl.length : Int) == 0) = false := beq_eq_false_iff_ne.2 (by omega)
        go_wp2_with (first
          | (go_at_call 17; refine (offset_any b g E.length last (E ++ tl) 0 wr HRR.out).mono ?_; rintro e w' ⟨rfl, rfl⟩)
          | (go_at_call 18; refine (left_tl b g last E tl wr HRR.out).mono ?_; rintro e w' ⟨rfl, m7, rfl⟩)
          | (go_at_call 19; refine (end_bad b g E.length last (E ++ tl) 0 _ (HRR.out.drewN m7) (Or.inr ⟨rfl, by rw [List.length_append]; omega⟩)).mono ?_; rintro e w' ⟨rfl, m8, rfl⟩))
        go_ret
        exact ⟨rfl, below_drewN HBR.out _⟩

set_option maxRecDepth 100000 in
set_option maxHeartbeats 800000 in
theorem reads_big (a o : Nat) (its : List It) (cap : Nat) (to : Option Addr) (tn tcap : Nat) (w : World) (hl : its.length ≤ 9223372036854775807) (ha : a < w.heap.size) (hc : ∀ i x, its[i]? = some x → w.cell? ⟨a, o + i * 3 + 2, none⟩ = some (.slice x.ao x.m.length x.cap)) (hm : ∀ x ∈ its, x.m.length ≤ 9223372036854775807) (hs : ¬ Small its) :
    Calls Try.prog 4 #[.slice (some ⟨a, o, none⟩) its.length cap, .slice to tn tcap] w fun e w' => e = .returned (.bool true) ∧ Below w.heap.size w w' := by
  have HC := hid_of hc
  have HM := hid_of hm
  have HS := hid_of hs
  clear hc hm hs
  go_enter Try.func4, Try.ntmps4
  go_wp2_with (first
    | (go_at_call 10; refine (awake_any w).mono ?_; rintro e w1 ⟨rfl, h1⟩; have H1 := hid_of h1; clear h1; have HC1 : Hid (∀ i x, its[i]? = some x → w1.cell? ⟨a, o + i * 3 + 2, none⟩ = some (.slice x.ao x.m.length x.cap)) := hid_of fun i x hx => (H1.out.cell (p := ⟨a, o + i * 3 + 2, none⟩) ha).trans (HC.out i x hx))
    | (go_at_call 11; refine (small_false a o its cap w1 hl HC1.out HM.out HS.out).mono ?_; rintro e w' ⟨rfl, rfl⟩))
  go_ret
  exact ⟨rfl, H1.out⟩

set_option maxRecDepth 100000 in
set_option maxHeartbeats 800000 in
theorem reads_long (a o : Nat) (its : List It) (cap : Nat) (to : Option Addr) (tn tcap : Nat) (w : World) (h : Items w.heap.size w a o its) (hs : Small its) (ht : 2000 < tn) :
    Calls Try.prog 4 #[.slice (some ⟨a, o, none⟩) its.length cap, .slice to tn tcap] w fun e w' => e = .returned (.bool true) ∧ Below w.heap.size w w' := by
  have HI := hid_of h
  have HS := hid_of hs
  have hlen := hs.1
  clear h hs
  go_enter Try.func4, Try.ntmps4
  go_wp2_with (first
    | (go_at_call 10; refine (awake_any w).mono ?_; rintro e w1 ⟨rfl, h1⟩; have H1 := hid_of h1; clear h1)
    | (go_at_call 11; refine (small_true a o its cap w1 (by omega) (HI.out.later H1.out H1.out.size) HS.out).mono ?_; rintro e w' ⟨rfl, rfl⟩))
  go_ret
  exact ⟨rfl, H1.out⟩

set_option maxRecDepth 100000 in
set_option maxHeartbeats 800000 in
theorem reads_nil_long (ao : Option Addr) (cap : Nat) (to : Option Addr) (tn tcap : Nat) (w : World) (ht : 2000 < tn) :
    Calls Try.prog 4 #[.slice ao 0 cap, .slice to tn tcap] w fun e w' => e = .returned (.bool true) ∧ Below w.heap.size w w' := by
  go_enter Try.func4, Try.ntmps4
  go_wp2_with (first
    | (go_at_call 10; refine (awake_any w).mono ?_; rintro e w1 ⟨rfl, h1⟩; have H1 := hid_of h1; clear h1)
    | (go_at_call 11; refine (small_nil ao cap w1).mono ?_; rintro e w' ⟨rfl, rfl⟩))
  go_ret
  exact ⟨rfl, H1.out⟩

set_option maxRecDepth 100000 in
set_option maxHeartbeats 1600000 in
theorem reads_nil (ao : Option Addr) (cap : Nat) (to : Option Addr) (tl : List Int) (tcap : Nat) (w : World) (ht : tl.length ≤ 2000) (htn : to = none → tcap = 0) (htr : ∀ y ∈ tl, 0 ≤ y ∧ y ≤ 255)
    (hts : 0 < tl.length → ∃ ad, to = some ad ∧ ad.block < w.heap.size ∧ ∀ j u, (bs tl)[j]? = some u → w.cell? (ad.add j) = some u) :
    Calls Try.prog 4 #[.slice ao 0 cap, .slice to tl.length tcap] w fun e w' => e = .returned (.bool true) ∧ Below w.heap.size w w' := by
  obtain ⟨i0, hi, hz0, hz1, hz2⟩ := info_parts Try.infoU8
  have HT := hid_of htr
  have HTS := hid_of hts
  have HTN := hid_of htn
  clear htr hts htn
  have HDL : Hid (tl.length ≤ 140737488351232) := hid_of (by omega)
  go_enter Try.func4, Try.ntmps4
  go_wp2_with (first
    | (go_at_call 10; refine (awake_any w).mono ?_; rintro e w1 ⟨rfl, h1⟩; have H1 := hid_of h1; clear h1)
    | (go_at_call 11; refine (small_nil ao cap w1).mono ?_; rintro e w' ⟨rfl, rfl⟩)
    | (go_at_call 12; refine (written_nil ao cap w1).mono ?_; rintro e w2 ⟨g2, rfl, hr2, _, hb2⟩; have HR2 := hid_of hr2; have HB2 := hid_of hb2; have HO := hid_of (OS.empty w2); have HST := hid_of (tail_src (b0 := w2.heap.size) HTS.out HTN.out ((H1.out.trans (HB2.out.mono H1.out.size)).trans ((OS.bel HO.out).mono (Nat.le_trans H1.out.size HB2.out.size)))); have HSE := hid_of (src_row (l := []) (keep_row (o := .cells #[] 5) hr2)); clear hr2 hb2)
    | ((with_reducible refine wpList_append_src _ rfl (.tmp 22) (.tmp 23) 25 25 rfl w2.heap.size 5 i0 (.int .u8 0) 1 1 Try.underlying25 hi hz0 hz1 hz2 rfl (by decide) (.slice (some ⟨w2.heap.size, 0, none⟩) 0 0) 0 (bs []) rfl (OS.own0 HO.out) (.slice to tl.length tcap) tl.length (bs tl) rfl HST.out (by unfold maxLen; omega) (by omega) (OS.size HO.out) ?_); intro v4 w4 hown4 hg4 _ _; have H4 := hid_of (os_first HO.out hown4 hg4); obtain ⟨ao4, cap4, rfl⟩ := own_shape (OS.own H4.out); clear hown4 hg4)
    | (go_at_call 14; refine (newReader_n ao4 tl tl.length cap4 w4 rfl HT.out HDL.out (os_reader H4.out rfl)).mono ?_; rintro e w5 ⟨b, g, rfl, h5, hb5, hbb, _⟩; have H5 := hid_of h5; have HB5 := hid_of hb5; have HBB := hid_of hbb; clear h5 hb5 hbb))
  have HBL := hid_of (reads_bel H1.out HB2.out (OS.bel H4.out) HB5.out)
  by_cases h0 : tl.length = 0
  · have e0 : ((tl.length : Int) == 0) = true := beq_iff_eq.2 (by omega)
    refine wp_loop_rounds 1 ?_
    rw [rounds_succ]
    go_wp2_with (first
      | (go_at_call 17; refine (offset_any b g 0 0 tl 0 w5 H5.out).mono ?_; rintro e w' ⟨rfl, rfl⟩)
      | (go_at_call 18; refine (left_any b g 0 0 tl 0 w5 H5.out).mono ?_; rintro e w' ⟨rfl, m7, rfl⟩)
      | (go_at_call 19; refine (end_ok b g 0 0 tl _ (H5.out.drewN m7) (by omega)).mono ?_; rintro e w' ⟨rfl, m8, rfl⟩))
    go_ret
    exact ⟨rfl, below_drewN HBL.out _⟩
  · have e0 : ((tl.length : Int) == 0) = false := beq_eq_false_iff_ne.2 (by omega)
    refine wp_loop_rounds 1 ?_
    rw [rounds_succ]
    go_wp2_with (first
      | (go_at_call 17; refine (offset_any b g 0 0 tl 0 w5 H5.out).mono ?_; rintro e w' ⟨rfl, rfl⟩)
      | (go_at_call 18; refine (left_any b g 0 0 tl 0 w5 H5.out).mono ?_; rintro e w' ⟨rfl, m7, rfl⟩)
      | (go_at_call 19; refine (end_bad b g 0 0 tl 0 _ (H5.out.drewN m7) (Or.inr ⟨rfl, by omega⟩)).mono ?_; rintro e w' ⟨rfl, m8, rfl⟩))
    go_ret
    exact ⟨rfl, below_drewN HBL.out _⟩

theorem reads_law (a0 : Option Addr) (len0 cap0 : Nat) (a1 : Option Addr) (len1 cap1 : Nat) (z1 : List Int) (w : World) (w0 : len0 = 0 ∨ ∃ a o its, a0 = some ⟨a, o, none⟩ ∧ its.length = len0 ∧ 0 < len0 ∧ Raw w a o its) (w1 : IsRow .u8 w a1 len1 cap1 z1) :
    Calls Try.prog 4 #[.slice a0 len0 cap0, .slice a1 len1 cap1] w fun e w' => e = .returned (.bool true) ∧ Below w.heap.size w w' := by
  obtain ⟨tl, rfl, _, htn, htr, hts⟩ := w1.bytes
  rcases w0 with rfl | ⟨a, o, its, rfl, rfl, h0, hr⟩
  · by_cases ht : tl.length ≤ 2000
    · exact reads_nil a0 cap0 a1 tl cap1 w ht htn htr hts
    · exact reads_nil_long a0 cap0 a1 tl.length cap1 w (by omega)
  · by_cases hs : Small its
    · by_cases ht : tl.length ≤ 2000
      · exact reads_small a o its cap0 a1 tl cap1 w (hr.items hs) hs ht htn htr hts
      · exact reads_long a o its cap0 a1 tl.length cap1 w (hr.items hs) hs (by omega)
    · exact reads_big a o its cap0 a1 tl.length cap1 w hr.len (hr.lt h0) hr.c2 hr.ml hs

end Go.Proofs.Ytijjaoabkbeeeaa
