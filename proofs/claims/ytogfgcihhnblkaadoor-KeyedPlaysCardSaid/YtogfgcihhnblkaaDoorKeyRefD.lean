/- The reference's Derive of package keyed. Bounds on the sizes. -/
import Derived.Test.YtogfgcihhnblkaaDoorKeyRefT
import Derived.Test.YtogfgcihhnblkaaDoorKeyShort
namespace Go.Proofs.YtogfgcihhnblkaaDoor
open Go.RowKit

theorem lies_one (w : World) (y : Int) : Lies (w.alloc (.cells #[.int .u8 y] 5)) (.slice (some ⟨w.heap.size, 0, none⟩) 1 1) [y] := lies_new rfl rfl (by simp)

set_option maxRecDepth 100000 in
set_option maxHeartbeats 1000000 in
theorem ruint_any (l : List Int) (x0 : Option Addr) (n0 cap0 : Nat) (n : Nat) (w : World) (hL : Lies w (.slice x0 n0 cap0) l) (hl : l.length ≤ 100000) (hn : n < 18446744073709551616) :
    Calls Tryd.prog 44 #[.slice x0 n0 cap0, .int .u64 n] w fun e w' => ∃ x k c, e = .returned (.slice x k c) ∧ OS w.heap.size w w' (.slice x k c) (l ++ Wr.enc n) := by
  have hel := Wr.enc_length_10 n hn
  have HL := hid_of hL
  have HLL := hid_of hl
  clear hL
  go_enter Tryd.func44, Tryd.ntmps44
  go_wp2_with (at_builtin; (refine wpList_app rfl _ _ rfl (v := .slice (some ⟨w.heap.size, 0, none⟩) 0 0) rfl (os_empty w) (vx := .slice x0 n0 cap0) rfl (HL.out.at (bel_alloc w _)) (by have := HLL.out; simp; omega) ?_); intro xo1 n1 c1 w1 hn1 h1; have H1 : Hid (OS w.heap.size w w1 (.slice xo1 n1 c1) l) := hid_of h1; clear h1 hn1)
  go_loopw [1, 5] (fun nv sv wr => ∃ k ao m cap, nv = .int .u64 ((n / 128 ^ k : Nat) : Int) ∧ sv = .slice ao m cap ∧ Hid (k ≤ 9 ∧ (∀ j, j < k → 128 ≤ n / 128 ^ j) ∧ OS w.heap.size w wr (.slice ao m cap) (l ++ Wr.encTake k n))) (fun nv _ _ => (intOf nv).toNat)
  case atStart => exact ⟨0, xo1, n1, c1, by simp, rfl, hid_of ⟨by omega, fun j hj => by omega, by have := H1.out; rw [show l ++ Wr.encTake 0 n = l by simp [Wr.encTake]]; exact this⟩⟩
  case round =>
    obtain ⟨k, ao, mm, cap, rfl, rfl, hinv⟩ := hrel
    obtain ⟨m, hm⟩ : ∃ m, m = n / 128 ^ k := ⟨_, rfl⟩
    rw [← hm]
    have hmn : m ≤ n := by rw [hm]; exact Nat.div_le_self _ _
    have HM := hid_of hm
    clear hm
    have HK : Hid (k ≤ 9) := hid_of hinv.out.1
    have HOS : Hid (OS w.heap.size w wr (.slice ao mm cap) (l ++ Wr.encTake k n)) := hid_of hinv.out.2.2
    have HLN : Hid ((l ++ Wr.encTake k n).length ≤ 100009) := hid_of (by have := HK.out; have := HLL.out; rw [List.length_append, Wr.encTake_length]; omega)
    have HJ := hid_of hinv.out.2.1
    clear hinv
    by_cases hlt : 128 ≤ m
    · have hk8 : k ≤ 8 := by
        have h1 := HM.out
        have h0 := HK.out
        rcases Nat.lt_or_ge k 9 with h2 | h2
        · omega
        · obtain rfl : k = 9 := by omega
          have h3 : m = n / 9223372036854775808 := h1
          omega
      go_wp2_with (at_builtin; (refine wpList_app rfl _ _ rfl (v := .slice ao mm cap) rfl (HOS.out.alloc _) (vx := .slice (some ⟨wr.heap.size, 0, none⟩) 1 1) rfl (lies_one wr ((m : Int) % 128 + 128)) (by have := HLN.out; simp at this ⊢; omega) ?_); intro xo2 n2 c2 w2 hn2 h2; have H2 := hid_of h2; clear h2 hn2)
      go_roundw
      case rel =>
        refine ⟨k + 1, xo2, n2, c2, ?_, rfl, hid_of ⟨by omega, fun j hj => ?_, ?_⟩⟩
        · rw [HM.out, Nat.pow_succ, ← Nat.div_div_eq_div_mul]
          go_num
        · rcases Nat.lt_or_ge j k with h1 | h1
          · exact HJ.out j h1
          · obtain rfl : j = k := by omega
            rw [← HM.out]; exact hlt
        · have := H2.out
          rw [Wr.encTake_snoc, ← HM.out, ← List.append_assoc]
          rw [show (m : Int) % 128 + 128 = ((m % 128 + 128 : Nat) : Int) by omega] at this
          exact this
      case measure => simp [intOf]; omega
    · go_wp2_with (at_builtin; (refine wpList_app rfl _ _ rfl (v := .slice ao mm cap) rfl (HOS.out.alloc _) (vx := .slice (some ⟨wr.heap.size, 0, none⟩) 1 1) rfl (lies_one wr (m : Int)) (by have := HLN.out; simp at this ⊢; omega) ?_); intro xo2 n2 c2 w2 hn2 h2; have H2 := hid_of h2; clear h2 hn2)
      go_ret
      refine ⟨_, _, _, rfl, ?_⟩
      have := H2.out
      rw [Wr.enc_take k n HJ.out, ← HM.out, Wr.enc_lt (by omega), ← List.append_assoc]
      exact this

set_option maxRecDepth 100000 in
theorem rint_any (l : List Int) (x0 : Option Addr) (n0 cap0 : Nat) (n : Int) (w : World) (hL : Lies w (.slice x0 n0 cap0) l) (hl : l.length ≤ 100000) (h0 : -9223372036854775808 ≤ n) (h1 : n ≤ 9223372036854775807) :
    Calls Tryd.prog 34 #[.slice x0 n0 cap0, .int .i64 n] w fun e w' => ∃ x k c, e = .returned (.slice x k c) ∧ OS w.heap.size w w' (.slice x k c) (l ++ Wr.enc (Wr.zig n)) := by
  have C := hid_of (ruint_any l x0 n0 cap0 (Wr.zig n) w hL hl (Wr.zig_lt n h0 h1))
  clear hL hl
  by_cases hn : 0 ≤ n
  · have HP : Hid (2 * n = ((Wr.zig n : Nat) : Int)) := hid_of (by unfold Wr.zig; rw [if_pos hn]; omega)
    go_enter Tryd.func34, Tryd.ntmps34
    go_wp2_with (go_at_call 44; rw [HP.out]; refine C.out.mono ?_; rintro e w1 ⟨x, k, c, rfl, h1⟩; have H1 := hid_of h1; clear h1)
    go_ret
    exact ⟨_, _, _, rfl, H1.out⟩
  · have HP : Hid (2 * -(n + 1) + 1 = ((Wr.zig n : Nat) : Int)) := hid_of (by unfold Wr.zig; rw [if_neg hn]; omega)
    go_enter Tryd.func34, Tryd.ntmps34
    go_wp2_with (go_at_call 44; rw [HP.out]; refine C.out.mono ?_; rintro e w1 ⟨x, k, c, rfl, h1⟩; have H1 := hid_of h1; clear h1)
    go_ret
    exact ⟨_, _, _, rfl, H1.out⟩

theorem lies_len {w : World} {x : Option Addr} {k c : Nat} {l : List Int} (h : Lies w (.slice x k c) l) : l.length = k := by
  obtain ⟨_, _, q, _⟩ := h
  simp only [Value.slice.injEq] at q
  exact q.2.1.symm
theorem lies_nil (w : World) : Lies w (.slice none 0 0) [] := ⟨none, 0, rfl, by simp, by omega, fun h => by simp at h⟩
set_option maxRecDepth 100000 in
theorem rtext_key (w : World) :
    Calls Tryd.prog 33 #[.slice none 0 0, .string ⟨#[107, 101, 121]⟩] w fun e w' => ∃ x k c, e = .returned (.slice x k c) ∧ OS w.heap.size w w' (.slice x k c) [3, 107, 101, 121] := by
  have C := hid_of (ruint_any [] none 0 0 3 w (lies_nil w) (by simp) (by omega))
  go_enter Tryd.func33, Tryd.ntmps33
  go_wp2_with (first
    | (go_at_call 44; refine C.out.mono ?_; rintro e w1 ⟨x, k, c, rfl, h1⟩; have H1 : Hid (OS w.heap.size w w1 (.slice x k c) [3]) := hid_of (by rw [Wr.enc_lt (by omega)] at h1; exact h1); clear h1)
    | (at_builtin; (refine wpList_apps rfl _ _ rfl (v := .slice x k c) rfl H1.out (m := [107, 101, 121]) rfl (by decide) (by simp) ?_); intro x2 n2 c2 w2 hn2 h2; have H2 := hid_of h2; clear h2 hn2))
  go_ret
  exact ⟨_, _, _, rfl, H2.out⟩

set_option maxRecDepth 100000 in
theorem rderive_any (k : List Int) (ao : Option Addr) (n cap : Nat) (p h : Int) (w : World) (hkn : k.length = n) (hK : Lies w (.slice ao n cap) k) (hk : ∀ y ∈ k, 0 ≤ y ∧ y ≤ 255) (hn : n ≤ 2200) (hp : R64 p) (hh : R64 h) :
    Calls Tryd.prog 15 #[.slice ao n cap, .int .i64 p, .int .i64 h] w fun e w' => ∃ g c, e = .returned (.slice (some ⟨g, 0, none⟩) 32 c) ∧ Lies w' (.slice (some ⟨g, 0, none⟩) 32 c) (derive k p h) ∧ Below w.heap.size w w' := by
  obtain ⟨A1, hA1⟩ : ∃ A, A = [3, 107, 101, 121] ++ Wr.enc (Wr.zig p) := ⟨_, rfl⟩
  obtain ⟨A2, hA2⟩ : ∃ A, A = keyText p h := ⟨_, rfl⟩
  have H12 : Hid (A2 = A1 ++ Wr.enc (Wr.zig h)) := hid_of (by rw [hA2, hA1]; rfl)
  have HA1 := hid_of hA1
  have hz1 := Wr.enc_length_10 _ (Wr.zig_lt p hp.1 hp.2)
  have hz2 := Wr.enc_length_10 _ (Wr.zig_lt h hh.1 hh.2)
  have L1 : Hid (A1.length ≤ 14) := hid_of (by rw [hA1, List.length_append]; simp; omega)
  have L2 : Hid (A2.length ≤ 24) := hid_of (by rw [hA2]; exact keyText_len p h hp hh)
  have R2 : Hid (∀ y ∈ A2, 0 ≤ y ∧ y ≤ 255) := hid_of (by rw [hA2]; exact keyText_rng p h)
  have HD : Hid (derive k p h = hmac k A2) := hid_of (by rw [hA2]; rfl)
  have HP := hid_of hp
  have HH := hid_of hh
  have HK := hid_of hK
  have HKR := hid_of hk
  have HKN := hid_of hkn
  have HN := hid_of hn
  clear hA1 hA2 hz1 hz2 hp hh hK hk hkn hn
  go_enter Tryd.func15, Tryd.ntmps15
  go_wp2_with (first
    | (go_at_call 33; ((with_reducible refine (rtext_key w).mono ?_); (rintro e w1 ⟨x1, k1, c1, rfl, h1⟩; have H1 := hid_of h1; clear h1)))
    | (go_at_call 34; (first
        | ((with_reducible refine (rint_any [3, 107, 101, 121] x1 k1 c1 p w1 (OS.lies H1.out (by simp)) (by simp) HP.out.1 HP.out.2).mono ?_); (rintro e w2 ⟨x2, k2, c2, rfl, h2⟩; rw [← HA1.out] at h2; have H2 := hid_of h2; have HB2 := hid_of (H1.out.bel.trans (h2.bel.mono H1.out.bel.size)); clear h2))
        | ((with_reducible refine (rint_any A1 x2 k2 c2 h w2 (OS.lies H2.out (by have := L1.out; omega)) (by have := L1.out; omega) HH.out.1 HH.out.2).mono ?_); (rintro e w3 ⟨x3, k3, c3, rfl, h3⟩; rw [← H12.out] at h3; have H3 := hid_of h3; have HB3 := hid_of (HB2.out.trans (h3.bel.mono HB2.out.size)); have L3 := hid_of (OS.lies h3 (by have := L2.out; omega)); have K3 := hid_of (lies_len L3.out); have K4 : Hid (k3 ≤ 2200) := hid_of (by have := L2.out; have := K3.out; omega); clear h3))))
    | (go_at_call 13; ((with_reducible refine (rtag_any k A2 ao x3 n cap k3 c3 w3 HKN.out K3.out (HK.out.at HB3.out) L3.out HKR.out R2.out HN.out K4.out).mono ?_); (rintro e w4 ⟨g, c, rfl, h4, h5⟩; have H4 := hid_of h4; have HB4 := hid_of (HB3.out.trans (h5.mono HB3.out.size)); clear h4 h5))))
  go_ret
  exact ⟨_, _, rfl, by rw [HD.out]; exact H4.out, HB4.out⟩
end Go.Proofs.YtogfgcihhnblkaaDoor
