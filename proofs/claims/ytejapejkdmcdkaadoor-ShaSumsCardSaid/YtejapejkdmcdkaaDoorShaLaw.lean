/- The examples of the chapter: awake returns true. -/
import Derived.Test.YtejapejkdmcdkaaDoorShaAbc
import Derived.Lib.SlBytesConst
namespace Go.Proofs.YtejapejkdmcdkaaDoor
open Go.RowKit

/-- A slice over a block that was made last. -/
theorem lies_new {w : World} {l : List Int} {n : Nat} {cs : Array Value} {m : Nat × Nat} (hn : n = l.length) (hc : cs = (bs l).toArray) (h : l.length ≤ 9223372036854775807) : Lies (w.alloc (.cells cs 5 m)) (.slice (some ⟨w.heap.size, 0, none⟩) n n) l := by
  subst hn hc
  refine ⟨_, _, rfl, Nat.le_refl _, h, fun _ => ⟨_, _, rfl, by simp, fun j u hu => ?_⟩⟩
  have := World.news_of_block (heap_alloc_new w (.cells (bs l).toArray 5 m)) j u (by simpa using hu)
  rw [Addr.add_mid] at this
  exact this
theorem bel_alloc (w : World) (o : Obj) : Below w.heap.size w (w.alloc o) := (Below.refl _ _).alloc (Nat.le_refl _) o
theorem bel_fst {w w' : World} {o : Obj} (h : Below (w.alloc o).heap.size (w.alloc o) w') : Below w.heap.size w w' :=
  (bel_alloc w o).trans (h.mono (by simp))
theorem Sst.bel {w w' : World} {b : Nat} {m : List Int} (h : Sst w b m) (hb : Below w.heap.size w w') : Sst w' b m := h.later (hb.block b h.lt)
theorem Sst.kept {w w' : World} {b c : Nat} {m : List Int} (h : Sst w b m) (hk : Kept (fun k => k = c) w w') (hn : b ≠ c) : Sst w' b m := h.later (hk.block b h.lt hn)

theorem sum_abc (w : World) (hG : Glob w) :
    Calls Tryd.prog 11 #[.slice (some ⟨w.heap.size, 0, none⟩) 3 3] (w.alloc (.cells #[.int .u8 97, .int .u8 98, .int .u8 99] 5 (3, 4))) fun e w' => e = .returned (.string (strOfNums (digest [97, 98, 99]))) ∧ Below w.heap.size w w' :=
  (sumf_any _ [97, 98, 99] _ (lies_new rfl rfl (by simp)) (by decide) (hG.bel (bel_alloc w _) hG.two) (by simp)).mono fun e w' ⟨he, hb⟩ => ⟨he, bel_fst hb⟩
theorem write_abc (b : Nat) (w : World) (h : Sst w b []) (hG : Glob w) (hb : 2 ≤ b) :
    Calls Tryd.prog 15 #[.pointer (some ⟨b, 0, none⟩), .slice (some ⟨w.heap.size, 0, none⟩) 3 3] (w.alloc (.cells #[.int .u8 97, .int .u8 98, .int .u8 99] 5 (3, 4))) fun e w' => e = .returned (.tuple #[]) ∧ Sst w' b [97, 98, 99] ∧ Kept (fun k => k = b) w w' := by
  have hlt := h.lt
  have hb1 : Below w.heap.size w (w.alloc (.cells #[.int .u8 97, .int .u8 98, .int .u8 99] 5 (3, 4))) := bel_alloc w _
  have hR : Rest (w.alloc (.cells #[.int .u8 97, .int .u8 98, .int .u8 99] 5 (3, 4))) b (.slice (some ⟨w.heap.size, 0, none⟩) 3 3) [97, 98, 99] := by
    obtain ⟨ao, cap, h1, h2, h3, h4⟩ := lies_new (w := w) (l := [97, 98, 99]) (n := 3) rfl rfl (by simp)
    refine ⟨ao, cap, h1, h2, h3, fun h0 => ?_⟩
    obtain ⟨g, o, q1, q2, q3⟩ := h4 h0
    subst q1
    simp only [Value.slice.injEq, Option.some.injEq, Addr.mk.injEq] at h1
    refine ⟨g, o, rfl, ?_, q2, q3⟩
    omega
  exact (write_any b [] [97, 98, 99] _ _ (h.bel hb1) hR (by decide) (hG.bel hb1 hG.two) hb (by simp)).mono fun e w' ⟨he, h1, h2⟩ => ⟨he, h1, (Kept.ofBelow hb1).trans h2⟩
theorem hex_abc (w : World) :
    Calls Tryd.prog 19 #[.string (strOfNums (digest [97, 98, 99]))] w fun e w' => e = .returned (.string abcH) ∧ Below w.heap.size w w' :=
  (hex_any _ w (by rw [abc_dig]; decide)).mono fun e w' ⟨he, hb⟩ => ⟨by rw [he, abc_hex], hb⟩
theorem unhex_00ff (w : World) :
    Calls Tryd.prog 20 #[.string ⟨#[48, 48, 102, 102]⟩] w fun e w' => e = .returned (.tuple #[.string ⟨#[0, 255]⟩, .bool true]) ∧ Below w.heap.size w w' := by
  refine (unhex_any ⟨#[48, 48, 102, 102]⟩ w (by decide)).mono fun e w' ⟨hb, h⟩ => ⟨?_, hb⟩
  have h0 : hexL [0, 255] = strBytes ⟨#[48, 48, 102, 102]⟩ := by decide
  rcases h with ⟨l, hl, he, hr⟩ | ⟨h, _⟩
  · have := hexL_inj l [0, 255] hl (by decide) (he.trans h0.symm)
    subst this
    rw [hr]
    rfl
  · exact absurd h0 (h _ (by decide))

set_option maxRecDepth 100000 in
set_option maxHeartbeats 1600000 in
theorem awake_any (w : World) (hG : Glob w) : Calls Tryd.prog 10 #[] w fun e w' => e = .returned (.bool true) ∧ Below w.heap.size w w' := by
  have HG := hid_of hG
  have H2 : Hid (2 ≤ w.heap.size) := hid_of hG.two
  obtain ⟨D, hD⟩ : ∃ D, D = strOfNums (digest [97, 98, 99]) := ⟨_, rfl⟩
  have SUM := hid_of sum_abc
  have HEX := hid_of hex_abc
  rw [← hD] at SUM HEX
  unfold abcH at HEX
  have SUMS : Hid (∀ (b : Nat) (w : World), Sst w b [97, 98, 99] → Glob w → Calls Tryd.prog 17 #[.pointer (some ⟨b, 0, none⟩)] w fun e w' => e = .returned (.string D) ∧ Below w.heap.size w w') := hid_of (fun b w h1 h2 => by rw [hD]; exact sum_any b _ w h1 h2 (by simp))
  clear hG hD
  have kc := fun (w : World) (C : Array Value) (n c : Nat) => Lib.run_convert_bytes_const (P := Tryd.prog) w 22 5 C n c Tryd.underlying22 Tryd.underlying5
  go_enter Tryd.func10, Tryd.ntmps10
  go_wp2_with (first
    | (go_at_call 14; refine (new_any w HG.out).mono ?_; rintro e w1 ⟨rfl, h1, hb1⟩; have H1 := hid_of h1; have HB1 := hid_of hb1; clear h1 hb1)
    | (go_at_call 15; refine (write_abc w.heap.size w1 H1.out (HG.out.bel HB1.out H2.out) H2.out).mono ?_; rintro e w2 ⟨rfl, h2, hk2⟩; have HS2 := hid_of h2; have HB2 := hid_of (HB1.out.trans (hk2.below HB1.out.size (fun k hk => by omega))); clear h2 hk2)
    | (go_at_call 20; refine (unhex_00ff w2).mono ?_; rintro e w3 ⟨rfl, hb3⟩; have HS3 := hid_of (HS2.out.bel hb3); have HB3 := hid_of (HB2.out.trans (hb3.mono HB2.out.size)); clear hb3)
    | (go_at_call 11; (first
        | (with_reducible refine (SUM.out w3 (HG.out.bel HB3.out H2.out)).mono ?_; rintro e w4 ⟨rfl, hb4⟩; have HS4 := hid_of (HS3.out.bel hb4); have HB4 := hid_of (HB3.out.trans (hb4.mono HB3.out.size)); clear hb4)
        | (with_reducible refine (SUM.out w6 (HG.out.bel HB6.out H2.out)).mono ?_; rintro e w7 ⟨rfl, hb7⟩; have HS7 := hid_of (HS6.out.bel hb7); have HB7 := hid_of (HB6.out.trans (hb7.mono HB6.out.size)); clear hb7)))
    | (go_at_call 19; refine (HEX.out w4).mono ?_; rintro e w5 ⟨rfl, hb5⟩; have HS5 := hid_of (HS4.out.bel hb5); have HB5 := hid_of (HB4.out.trans (hb5.mono HB4.out.size)); clear hb5)
    | (go_at_call 16; (first
        | (with_reducible refine (len_any w.heap.size [97, 98, 99] w5 HS5.out).mono ?_; rintro e w' ⟨rfl, rfl⟩)
        | (with_reducible refine (len_any w7.heap.size [97, 98, 99] w8 H8.out).mono ?_; rintro e w' ⟨rfl, rfl⟩)))
    | (go_at_call 17; refine (SUMS.out w.heap.size w5 HS5.out (HG.out.bel HB5.out H2.out)).mono ?_; rintro e w6 ⟨rfl, hb6⟩; have HS6 := hid_of (HS5.out.bel hb6); have HB6 := hid_of (HB5.out.trans (hb6.mono HB5.out.size)); clear hb6)
    | (go_at_call 18; refine (clone_any w.heap.size [97, 98, 99] w7 HS7.out).mono ?_; rintro e w8 ⟨rfl, h8, hb8⟩; have H8 := hid_of h8; have HB8 := hid_of (HB7.out.trans (hb8.mono HB7.out.size)); clear h8 hb8))
  go_ret
  exact ⟨rfl, HB8.out⟩
end Go.Proofs.YtejapejkdmcdkaaDoor
