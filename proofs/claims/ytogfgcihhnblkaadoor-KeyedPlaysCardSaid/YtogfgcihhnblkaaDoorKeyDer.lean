/- Derive of package keyed. Bounds on the sizes. -/
import Derived.Test.YtogfgcihhnblkaaDoorKeyTag
import Derived.Test.YtogfgcihhnblkaaDoorWireWS
namespace Go.Proofs.YtogfgcihhnblkaaDoor
open Go.RowKit

/-- What is hashed for the key of a process at a height. -/
def keyText (p h : Int) : List Int := [3, 107, 101, 121] ++ Wr.enc (Wr.zig p) ++ Wr.enc (Wr.zig h)
/-- The key of a process at a height. -/
def derive (k : List Int) (p h : Int) : List Int := hmac k (keyText p h)
theorem keyText_rng (p h : Int) : ∀ y ∈ keyText p h, 0 ≤ y ∧ y ≤ 255 := by
  intro y hy
  simp only [keyText, List.mem_append] at hy
  rcases hy with (hy | hy) | hy
  · simp at hy; omega
  · exact Wr.enc_byte _ y hy
  · exact Wr.enc_byte _ y hy
theorem i64_wf {n : Int} (h : (Lit.int .i64 n).wf = true) : -9223372036854775808 ≤ n ∧ n ≤ 9223372036854775807 := by
  simpa [Lit.wf, IntKind.min, IntKind.max, IntKind.signed, IntKind.bits] using h
theorem keyText_len (p h : Int) (hp : -9223372036854775808 ≤ p ∧ p ≤ 9223372036854775807) (hh : -9223372036854775808 ≤ h ∧ h ≤ 9223372036854775807) : (keyText p h).length ≤ 24 := by
  have h1 := Wr.enc_length_10 (Wr.zig p) (Wr.zig_lt p hp.1 hp.2)
  have h2 := Wr.enc_length_10 (Wr.zig h) (Wr.zig_lt h hh.1 hh.2)
  simp only [keyText, List.length_append, List.length_cons, List.length_nil]
  omega
theorem ws_key {B b : Nat} {w0 w : World} (h : Wr.WS B b w0 w ([] ++ Wr.enc (ByteArray.mk #[107, 101, 121]).size ++ Wr.strBytes ⟨#[107, 101, 121]⟩)) : Wr.WS B b w0 w [3, 107, 101, 121] := by
  have e3 : Wr.enc (ByteArray.mk #[107, 101, 121]).size = [3] := by rw [show (ByteArray.mk #[107, 101, 121]).size = 3 from rfl, Wr.enc_lt (by omega)]; rfl
  rw [e3] at h; exact h
theorem data_n (b B n : Nat) (l : List Int) (w0 w : World) (h : Wr.WS B b w0 w l) (hn : l.length = n) (hl : n ≤ 1000) :
    Calls Tryd.prog 32 #[.pointer (some ⟨b, 0, none⟩)] w fun e w' => e = .returned (.slice (some ⟨w.heap.size, 0, none⟩) n n) ∧ Lies w' (.slice (some ⟨w.heap.size, 0, none⟩) n n) l ∧ Below B w0 w' := by
  subst hn
  exact (Wr.data_ws b B l w0 w h (by omega)).mono fun e w' ⟨he, h1, h2⟩ => ⟨he, ⟨_, _, rfl, Nat.le_refl _, by omega, fun _ => ⟨_, 0, rfl, lt_of_block h1, fun j u hu => by
    rw [Nat.zero_add, cell_of_row _ _ _ _ _ _ h1]
    have hu2 : (Wr.bs l)[j]? = some u := hu
    simpa using hu2⟩⟩, h2.2.2.1⟩

set_option maxRecDepth 100000 in
theorem derive_any (v : Value) (k : List Int) (p h : Int) (w : World) (hv : Lies w v k) (hk : ∀ y ∈ k, 0 ≤ y ∧ y ≤ 255) (hp : -9223372036854775808 ≤ p ∧ p ≤ 9223372036854775807) (hh : -9223372036854775808 ≤ h ∧ h ≤ 9223372036854775807) (hG : Glob w) (hn : k.length ≤ 80000000000) :
    Calls Tryd.prog 14 #[v, .int .i64 p, .int .i64 h] w fun e w' => ∃ g cap, e = .returned (.slice (some ⟨g, 0, none⟩) 32 cap) ∧ w.heap.size ≤ g ∧ Lies w' (.slice (some ⟨g, 0, none⟩) 32 cap) (derive k p h) ∧ Below w.heap.size w w' := by
  obtain ⟨L, hL⟩ : ∃ L, L = keyText p h := ⟨_, rfl⟩
  obtain ⟨n, hnl⟩ : ∃ n, L.length = n := ⟨_, rfl⟩
  have HL : Hid (derive k p h = hmac k L) := hid_of (by rw [hL]; rfl)
  have HLE : Hid (L = [3, 107, 101, 121] ++ Wr.enc (Wr.zig p) ++ Wr.enc (Wr.zig h)) := hid_of hL
  have HLR : Hid (∀ y ∈ L, 0 ≤ y ∧ y ≤ 255) := hid_of (by rw [hL]; exact keyText_rng p h)
  have hn24 : n ≤ 24 := by rw [← hnl, hL]; exact keyText_len p h hp hh
  have HNL := hid_of hnl
  have HP := hid_of hp
  have HH := hid_of hh
  have HV := hid_of hv
  have HK := hid_of hk
  have HG := hid_of hG
  have H2 : Hid (2 ≤ w.heap.size) := hid_of hG.two
  have HN := hid_of hn
  have HE1 : Hid ((Wr.enc (Wr.zig p)).length ≤ 10) := hid_of (Wr.enc_length_10 _ (Wr.zig_lt p hp.1 hp.2))
  clear hL hnl hp hh hv hk hG hn
  go_enter Tryd.func14, Tryd.ntmps14
  go_wp2_with (first
    | (go_at_call 30; refine (Wr.text_ws ⟨#[107, 101, 121]⟩ w.heap.size w.heap.size [] w _ (by decide) (Wr.ws_new w) (by simp)).mono ?_; rintro e w1 ⟨rfl, h1⟩; have H1 := hid_of (ws_key h1); clear h1)
    | (go_at_call 31; (first
      | ((with_reducible refine (Wr.int_ws p w.heap.size w.heap.size [3, 107, 101, 121] w w1 HP.out.1 HP.out.2 H1.out (by simp)).mono ?_); (rintro e w2 ⟨rfl, h2⟩; have H2W := hid_of h2; clear h2))
      | ((with_reducible refine (Wr.int_ws h w.heap.size w.heap.size ([3, 107, 101, 121] ++ Wr.enc (Wr.zig p)) w w2 HH.out.1 HH.out.2 H2W.out (by have := HE1.out; rw [List.length_append]; simp; omega)).mono ?_); (rintro e w3 ⟨rfl, h3⟩; rw [← HLE.out] at h3; have H3 := hid_of h3; clear h3))))
    | (go_at_call 32; refine (data_n w.heap.size w.heap.size n L w w3 H3.out HNL.out (by omega)).mono ?_; rintro e w4 ⟨rfl, h4, hb4⟩; have H4 := hid_of h4; have HB4 := hid_of hb4; clear h4 hb4)
    | (go_at_call 12; refine (tag_any v (.slice (some ⟨w3.heap.size, 0, none⟩) n n) k L w4 (HV.out.later HB4.out (Nat.le_refl _)) H4.out HK.out HLR.out (HG.out.bel HB4.out H2.out) HN.out (by have := HNL.out; omega)).mono ?_; rintro e w5 ⟨g, cap, rfl, hg, hl, hb⟩; have HG5 := hid_of (Nat.le_trans HB4.out.size hg); have HL5 := hid_of hl; have HB5 := hid_of (HB4.out.trans (hb.mono HB4.out.size)); clear hg hl hb))
  go_ret
  exact ⟨_, _, rfl, HG5.out, by rw [HL.out]; exact HL5.out, HB5.out⟩
end Go.Proofs.YtogfgcihhnblkaaDoor
