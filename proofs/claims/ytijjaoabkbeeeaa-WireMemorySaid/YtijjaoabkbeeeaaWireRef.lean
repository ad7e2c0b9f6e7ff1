/- The document's own encoding (package plexusref01), contracts. No condition but bounds on sizes. -/
import Derived.Test.YtijjaoabkbeeeaaWireSmall
namespace Go.Proofs.Ytijjaoabkbeeeaa
open Go.RowKit

/-- A slice of the call's own that holds l; below B the world is as w0 was. -/
def OS (B : Nat) (w0 w : World) (v : Value) (l : List Int) : Prop := B ≤ w0.heap.size ∧ Below B w0 w ∧ w.ownsRow B 5 1 v l.length (bs l)

theorem OS.size {B : Nat} {w0 w : World} {v : Value} {l : List Int} (h : OS B w0 w v l) : B ≤ w.heap.size := Nat.le_trans h.1 h.2.1.size
theorem OS.own {B : Nat} {w0 w : World} {v : Value} {l : List Int} (h : OS B w0 w v l) : w.ownsRow B 5 1 v l.length (bs l) := h.2.2
theorem OS.bel {B : Nat} {w0 w : World} {v : Value} {l : List Int} (h : OS B w0 w v l) : Below B w0 w := h.2.1
theorem OS.alloc {B : Nat} {w0 w : World} {v : Value} {l : List Int} (h : OS B w0 w v l) (o : Obj) : OS B w0 (w.alloc o) v l := ⟨h.1, h.2.1.alloc h.size _, h.2.2.alloc o⟩
theorem OS.empty (w : World) : OS w.heap.size w (w.alloc (.cells #[] 5)) (.slice (some ⟨w.heap.size, 0, none⟩) 0 0) [] :=
  ⟨Nat.le_refl _, (Below.refl _ _).alloc (Nat.le_refl _) _, by simp [bs], .inr ⟨_, 0, #[], rfl, Nat.le_refl _, heap_alloc_new _ _, Nat.le_refl _, by unfold maxLen; omega, rfl, rfl⟩⟩
/-- Behind an append. -/
theorem OS.app {B n : Nat} {w0 w w' : World} {v v' : Value} {l m : List Int} (h : OS B w0 w v l) (hown : w'.ownsRow B 5 1 v' n (bs l ++ bs m)) (hn : n = l.length + m.length) (hg : w.grownBy w' v.ownBlock) : OS B w0 w' v' (l ++ m) := by
  subst hn
  refine ⟨h.1, h.2.1.grown hg h.size (fun k hk => (h.own.lt k hk).1), ?_⟩
  rw [bs_append, List.length_append]
  exact hown

theorem OS.ofAlloc {w w' : World} {v : Value} {l : List Int} {o : Obj} (h : OS (w.alloc o).heap.size (w.alloc o) w' v l) : OS w.heap.size w w' v l := by
  refine ⟨Nat.le_refl _, ((Below.refl _ _).alloc (Nat.le_refl _) o).trans (h.2.1.mono (by simp)), h.2.2.1, ?_⟩
  rcases h.2.2.2 with q | ⟨g, cap, cur, q1, q2, q⟩
  · exact .inl q
  · exact .inr ⟨g, cap, cur, q1, by simp at q2; omega, q⟩

theorem src_one (w : World) (y : Int) : Src Try.prog 1 25 (.slice (some ⟨w.heap.size, 0, none⟩) 1 1) 1 (bs [y]) (w.alloc (.cells #[.int .u8 y] 5)) :=
  Src.ofSlice _ Try.underlying25 ⟨w.heap.size, 0, none⟩ 1 1 (bs [y]) rfl (World.news_of_block (heap_alloc_new w _)) (bs_one _)
theorem src_one2 (w : World) (o : Obj) (y : Int) : Src Try.prog 1 25 (.slice (some ⟨w.heap.size + 1, 0, none⟩) 1 1) 1 (bs [y]) ((w.alloc o).alloc (.cells #[.int .u8 y] 5)) := by
  have := src_one (w.alloc o) y
  rw [show (w.alloc o).heap.size = w.heap.size + 1 by simp] at this
  exact this
theorem src_nil (w : World) : Src Try.prog 1 25 (.slice none 0 0) 0 (bs []) w := Src.ofNil w Try.underlying25 0
theorem src_own {B : Nat} {w0 w : World} {v : Value} {l : List Int} (h : OS B w0 w v l) : Src Try.prog 1 25 v l.length (bs l) w := by
  obtain ⟨ao, cap, rfl⟩ := own_shape h.own
  refine src_slice ao l cap w (own_src h.own) ?_
  intro ha
  subst ha
  rcases h.own.2 with ⟨h1, _⟩ | ⟨g, cap', cur, h1, _⟩
  · simp at h1; exact h1.2
  · cases h1

set_option maxRecDepth 100000 in
set_option maxHeartbeats 1000000 in
theorem fuint_any (n : Nat) (w : World) (hn : n < 18446744073709551616) :
    Calls Try.prog 39 #[.slice none 0 0, .int .u64 n] w fun e w' => ∃ v, e = .returned v ∧ OS w.heap.size w w' v (enc n) := by
  obtain ⟨i0, hi, hz0, hz1, hz2⟩ := info_parts Try.infoU8
  have hel := enc_length_10 n hn
  have H0 := hid_of (OS.empty w)
  go_enter Try.func39, Try.ntmps39
  go_wp2
  go_loopw [1, 5] (fun nv sv wr => ∃ k ao cap, nv = .int .u64 ((n / 128 ^ k : Nat) : Int) ∧ sv = .slice ao k cap ∧ Hid (k ≤ 9 ∧ (∀ j, j < k → 128 ≤ n / 128 ^ j) ∧ OS w.heap.size w wr (.slice ao k cap) (encTake k n))) (fun nv _ _ => (intOf nv).toNat)
  case atStart => exact ⟨0, some ⟨w.heap.size, 0, none⟩, 0, by simp, rfl, hid_of ⟨by omega, fun j hj => by omega, H0.out⟩⟩
  case round =>
    obtain ⟨k, ao, cap, rfl, rfl, hinv⟩ := hrel
    obtain ⟨m, hm⟩ : ∃ m, m = n / 128 ^ k := ⟨_, rfl⟩
    rw [← hm]
    have hmn : m ≤ n := by rw [hm]; exact Nat.div_le_self _ _
    have HM := hid_of hm
    clear hm
    have HK : Hid (k ≤ 9) := hid_of hinv.out.1
    have HOS : Hid (OS w.heap.size w wr (.slice ao k cap) (encTake k n)) := hid_of hinv.out.2.2
    have HOW : ∀ o : Obj, Hid ((wr.alloc o).ownsRow w.heap.size 5 1 (.slice ao k cap) k (bs (encTake k n))) := fun o => hid_of (by have := (HOS.out.alloc o).own; rw [encTake_length] at this; exact this)
    by_cases hlt : 128 ≤ m
    · have hk8 : k ≤ 8 := by
        have h1 := HM.out
        have h0 := HK.out
        rcases Nat.lt_or_ge k 9 with h2 | h2
        · omega
        · obtain rfl : k = 9 := by omega
          have h3 : m = n / 9223372036854775808 := h1
          omega
      go_wp2_with ((with_reducible refine wpList_append_src _ rfl (.tmp 11) (.tmp 16) 25 25 rfl w.heap.size 5 i0 (.int .u8 0) 1 1 Try.underlying25 hi hz0 hz1 hz2 rfl (by decide) (.slice ao k cap) k (bs (encTake k n)) rfl (HOW _).out (.slice (some ⟨wr.heap.size, 0, none⟩) 1 1) 1 (bs [(m : Int) % 128 + 128]) rfl (src_one _ _) (by unfold maxLen; omega) (by omega) (OS.size (OS.alloc HOS.out _)) ?_); intro v1 w1 hown1 hg1 _ _; have H1 := hid_of (OS.app (OS.alloc HOS.out _) hown1 (by rw [encTake_length]; rfl) hg1); obtain ⟨ao1, cap1, rfl⟩ := own_shape hown1; clear hown1 hg1)
      go_roundw
      case rel =>
        refine ⟨k + 1, ao1, cap1, ?_, rfl, hid_of ⟨by omega, fun j hj => ?_, ?_⟩⟩
        · rw [HM.out, Nat.pow_succ, ← Nat.div_div_eq_div_mul]
          go_num
        · rcases Nat.lt_or_ge j k with h1 | h1
          · exact hinv.out.2.1 j h1
          · obtain rfl : j = k := by omega
            rw [← HM.out]; exact hlt
        · have := H1.out
          rw [encTake_snoc, ← HM.out]
          rw [show (m : Int) % 128 + 128 = ((m % 128 + 128 : Nat) : Int) by omega] at this
          exact this
      case measure => simp [intOf]; omega
    · go_wp2_with ((with_reducible refine wpList_append_src _ rfl (.tmp 20) (.tmp 23) 25 25 rfl w.heap.size 5 i0 (.int .u8 0) 1 1 Try.underlying25 hi hz0 hz1 hz2 rfl (by decide) (.slice ao k cap) k (bs (encTake k n)) rfl (HOW _).out (.slice (some ⟨wr.heap.size, 0, none⟩) 1 1) 1 (bs [(m : Int)]) rfl (src_one _ _) (by have := HK.out; unfold maxLen; omega) (by have := HK.out; omega) (OS.size (OS.alloc HOS.out _)) ?_); intro v1 w1 hown1 hg1 _ _; have H1 := hid_of (OS.app (OS.alloc HOS.out _) hown1 (by rw [encTake_length]; rfl) hg1); obtain ⟨ao1, cap1, rfl⟩ := own_shape hown1; clear hown1 hg1)
      go_ret
      refine ⟨_, rfl, ?_⟩
      have := H1.out
      rw [enc_take k n hinv.out.2.1, ← HM.out, enc_lt (by omega)]
      exact this

set_option maxRecDepth 100000 in
set_option maxHeartbeats 400000 in
theorem fint_any (n : Int) (w : World) (h0 : -9223372036854775808 ≤ n) (h1 : n ≤ 9223372036854775807) :
    Calls Try.prog 40 #[.slice none 0 0, .int .i64 n] w fun e w' => ∃ v, e = .returned v ∧ OS w.heap.size w w' v (enc (zig n)) := by
  have hz := zig_lt n h0 h1
  by_cases hn : 0 ≤ n
  · have HP : Hid (2 * n = ((zig n : Nat) : Int)) := hid_of (by unfold zig; rw [if_pos hn]; omega)
    go_enter Try.func40, Try.ntmps40
    go_wp2_with (go_at_call 39; rw [HP.out]; refine (fuint_any (zig n) w hz).mono ?_; rintro e w1 ⟨v1, rfl, h1⟩; have H1 := hid_of h1; clear h1; obtain ⟨ao1, cap1, rfl⟩ := own_shape (OS.own H1.out))
    go_ret
    exact ⟨_, rfl, H1.out⟩
  · have HP : Hid (2 * -(n + 1) + 1 = ((zig n : Nat) : Int)) := hid_of (by unfold zig; rw [if_neg hn]; omega)
    go_enter Try.func40, Try.ntmps40
    go_wp2_with (go_at_call 39; rw [HP.out]; refine (fuint_any (zig n) w hz).mono ?_; rintro e w1 ⟨v1, rfl, h1⟩; have H1 := hid_of h1; clear h1; obtain ⟨ao1, cap1, rfl⟩ := own_shape (OS.own H1.out))
    go_ret
    exact ⟨_, rfl, H1.out⟩

set_option maxRecDepth 100000 in
set_option maxHeartbeats 400000 in
theorem fbool_any (x : Bool) (w : World) :
    Calls Try.prog 41 #[.slice none 0 0, .bool x] w fun e w' => ∃ v, e = .returned v ∧ OS w.heap.size w w' v [if x then 1 else 0] := by
  obtain ⟨i0, hi, hz0, hz1, hz2⟩ := info_parts Try.infoU8
  have H0 := hid_of (OS.empty w)
  cases x
  · go_enter Try.func41, Try.ntmps41
    go_wp2_with ((with_reducible refine wpList_append_src _ rfl (.tmp 13) (.tmp 14) 25 25 rfl w.heap.size 5 i0 (.int .u8 0) 1 1 Try.underlying25 hi hz0 hz1 hz2 rfl (by decide) (.slice (some ⟨w.heap.size, 0, none⟩) 0 0) 0 (bs []) rfl (OS.own (OS.alloc H0.out _)) (.slice (some ⟨w.heap.size + 1, 0, none⟩) 1 1) 1 (bs [0]) rfl (src_one2 w _ 0) (by unfold maxLen; omega) (by omega) (OS.size (OS.alloc H0.out _)) ?_); intro v1 w1 hown1 hg1 _ _; have H1 := hid_of (OS.app (OS.alloc H0.out _) hown1 rfl hg1); obtain ⟨ao1, cap1, rfl⟩ := own_shape hown1; clear hown1 hg1)
    go_ret
    exact ⟨_, rfl, H1.out⟩
  · go_enter Try.func41, Try.ntmps41
    go_wp2_with ((with_reducible refine wpList_append_src _ rfl (.tmp 8) (.tmp 9) 25 25 rfl w.heap.size 5 i0 (.int .u8 0) 1 1 Try.underlying25 hi hz0 hz1 hz2 rfl (by decide) (.slice (some ⟨w.heap.size, 0, none⟩) 0 0) 0 (bs []) rfl (OS.own (OS.alloc H0.out _)) (.slice (some ⟨w.heap.size + 1, 0, none⟩) 1 1) 1 (bs [1]) rfl (src_one2 w _ 1) (by unfold maxLen; omega) (by omega) (OS.size (OS.alloc H0.out _)) ?_); intro v1 w1 hown1 hg1 _ _; have H1 := hid_of (OS.app (OS.alloc H0.out _) hown1 rfl hg1); obtain ⟨ao1, cap1, rfl⟩ := own_shape hown1; clear hown1 hg1)
    go_ret
    exact ⟨_, rfl, H1.out⟩

set_option maxRecDepth 100000 in
set_option maxHeartbeats 400000 in
theorem fbytes_any (ao : Option Addr) (m : List Int) (cap : Nat) (w : World) (hm : m.length ≤ 70000000000000) (hsrc : ∀ w1, Below w.heap.size w w1 → Src Try.prog 1 25 (.slice ao m.length cap) m.length (bs m) w1) :
    Calls Try.prog 42 #[.slice none 0 0, .slice ao m.length cap] w fun e w' => ∃ v, e = .returned v ∧ OS w.heap.size w w' v (enc m.length ++ m) := by
  obtain ⟨i0, hi, hz0, hz1, hz2⟩ := info_parts Try.infoU8
  have hel := enc_length_10 m.length (by omega)
  have HS := hid_of hsrc
  clear hsrc
  go_enter Try.func42, Try.ntmps42
  go_wp2_with (first
    | (go_at_call 39; refine (fuint_any m.length w (by omega)).mono ?_; rintro e w1 ⟨v1, rfl, h1⟩; have H1 := hid_of h1; clear h1)
    | ((with_reducible refine wpList_append_src _ rfl (.tmp 9) (.tmp 10) 25 25 rfl w.heap.size 5 i0 (.int .u8 0) 1 1 Try.underlying25 hi hz0 hz1 hz2 rfl (by decide) v1 (enc m.length).length (bs (enc m.length)) rfl (OS.own H1.out) (.slice ao m.length cap) m.length (bs m) rfl (HS.out _ (OS.bel H1.out)) (by unfold maxLen; omega) (by omega) (OS.size H1.out) ?_); intro v2 w2 hown2 hg2 _ _; have H2 := hid_of (OS.app H1.out hown2 rfl hg2); obtain ⟨ao2, cap2, rfl⟩ := own_shape hown2; clear hown2 hg2))
  go_ret
  exact ⟨_, rfl, H2.out⟩

set_option maxRecDepth 100000 in
set_option maxHeartbeats 800000 in
theorem fput_any (x : It) (w : World) (hn : x.n < 18446744073709551616) (hm : x.m.length ≤ 60000000000000) (hsrc : ∀ w1, Below w.heap.size w w1 → Src Try.prog 1 25 (.slice x.ao x.m.length x.cap) x.m.length (bs x.m) w1) :
    Calls Try.prog 34 #[.slice none 0 0, .agg #[.int .i64 x.kind, .int .u64 x.n, .slice x.ao x.m.length x.cap]] w fun e w' => ∃ v, e = .returned v ∧ OS w.heap.size w w' v (encIt x) := by
  obtain ⟨kind, n, ao, m, cap⟩ := x
  have hsg := sgn_bd n
  simp only at hn hm hsrc ⊢
  have HS := hid_of hsrc
  clear hsrc
  by_cases k0 : kind = 0
  · subst k0
    go_enter Try.func34, Try.ntmps34
    go_wp2_with (go_at_call 39; refine (fuint_any n _ hn).mono ?_; rintro e w1 ⟨v1, rfl, h1⟩; have H1 := hid_of (OS.ofAlloc h1); clear h1; obtain ⟨ao1, cap1, rfl⟩ := own_shape (OS.own H1.out))
    go_ret
    refine ⟨_, rfl, ?_⟩
    rw [encIt0]
    exact H1.out
  · by_cases k1 : kind = 1
    · subst k1
      go_enter Try.func34, Try.ntmps34
      go_wp2_with (go_at_call 40; refine (fint_any (sgn n) _ hsg.1 hsg.2).mono ?_; rintro e w1 ⟨v1, rfl, h1⟩; have H1 := hid_of (OS.ofAlloc h1); clear h1; obtain ⟨ao1, cap1, rfl⟩ := own_shape (OS.own H1.out))
      go_ret
      refine ⟨_, rfl, ?_⟩
      rw [encIt1]
      exact H1.out
    · by_cases k2 : kind = 2
      · subst k2
        go_enter Try.func34, Try.ntmps34
        go_wp2_with (go_at_call 41; refine (fbool_any _ _).mono ?_; rintro e w1 ⟨v1, rfl, h1⟩; have H1 := hid_of (OS.ofAlloc h1); clear h1; obtain ⟨ao1, cap1, rfl⟩ := own_shape (OS.own H1.out))
        go_ret
        refine ⟨_, rfl, ?_⟩
        have h1 := H1.out
        have e : (if (((n : Int) % 2 == 1) : Bool) then (1 : Int) else 0) = if n % 2 = 1 then 1 else 0 := by
          by_cases hc : n % 2 = 1
          · rw [if_pos hc, if_pos (by simp; omega)]
          · rw [if_neg hc, if_neg (by simp; omega)]
        rw [e] at h1
        rw [encIt2]
        exact h1
      · have e0 : (kind == 0) = false := by simp [k0]
        have e1 : (kind == 1) = false := by simp [k1]
        have e2 : (kind == 2) = false := by simp [k2]
        have HE : Hid (encIt ⟨kind, n, ao, m, cap⟩ = enc m.length ++ m) := hid_of (by unfold encIt; rw [if_neg k0, if_neg k1, if_neg k2])
        clear k0 k1 k2
        go_enter Try.func34, Try.ntmps34
        go_wp2_with (go_at_call 42; refine (fbytes_any ao m cap _ (by omega) (fun w1 hw1 => HS.out w1 (((Below.refl _ _).alloc (Nat.le_refl _) _).trans (hw1.mono (by simp))))).mono ?_; rintro e w1 ⟨v1, rfl, h1⟩; have H1 := hid_of (OS.ofAlloc h1); clear h1; obtain ⟨ao1, cap1, rfl⟩ := own_shape (OS.own H1.out))
        go_ret
        refine ⟨_, rfl, ?_⟩
        rw [HE.out]
        have h1 := H1.out
        rw [List.length_append] at h1
        exact h1

/-- What one part owns, seen from an earlier world. -/
theorem OS.later {w1 w' : World} {v : Value} {l : List Int} (h : OS w1.heap.size w1 w' v l) : Src Try.prog 1 25 v l.length (bs l) w' := src_own h
theorem OS.keep {B : Nat} {w0 w w' : World} {v : Value} {l : List Int} (h : OS B w0 w v l) (hb : Below w.heap.size w w') : OS B w0 w' v l :=
  ⟨h.1, h.2.1.trans (hb.mono h.size), own_same h.2.2 fun k hk => hb.block k (h.2.2.lt k hk).2⟩

theorem It.srcs {B : Nat} {w0 w : World} {x : It} (h : ItOk B w0 x) (hb : Below B w0 w) (hB : B ≤ w.heap.size) : ∀ w1, Below w.heap.size w w1 → Src Try.prog 1 25 (.slice x.ao x.m.length x.cap) x.m.length (bs x.m) w1 :=
  fun w1 hw1 => src_slice x.ao x.m x.cap w1 (h.cells (hb.trans (hw1.mono hB))) h.nil

theorem all_own {w wr w1 : World} {n : Nat} {v : Value} {l : List Int} (h : n = l.length ∧ OS w.heap.size w wr v l) (hb : Below wr.heap.size wr w1) : w1.ownsRow w.heap.size 5 1 v n (bs l) := by
  have := (h.2.keep hb).own
  rw [← h.1] at this; exact this
theorem all_size {w wr w1 : World} {n : Nat} {v : Value} {l : List Int} (h : n = l.length ∧ OS w.heap.size w wr v l) (hb : Below wr.heap.size wr w1) : w.heap.size ≤ w1.heap.size := (h.2.keep hb).size
theorem all_app {w wr w1 w2 : World} {n : Nat} {v v' : Value} {l m : List Int} (h : n = l.length ∧ OS w.heap.size w wr v l) (hb : Below wr.heap.size wr w1) (hown : w2.ownsRow w.heap.size 5 1 v' (n + m.length) (bs l ++ bs m)) (hg : w1.grownBy w2 v.ownBlock) :
    OS w.heap.size w w2 v' (l ++ m) := (h.2.keep hb).app hown (by rw [h.1]) hg

set_option maxRecDepth 100000 in
set_option maxHeartbeats 800000 in
theorem fall_any (a o : Nat) (its : List It) (cap : Nat) (w : World) (h : Items w.heap.size w a o its) (hn : its.length ≤ 100000000000) (hL : ∀ k, (encAll (its.take k)).length ≤ 60000000000000) :
    Calls Try.prog 13 #[.slice (some ⟨a, o, none⟩) its.length cap] w fun e w' => ∃ ao c, e = .returned (.slice ao (encAll its).length c) ∧ OS w.heap.size w w' (.slice ao (encAll its).length c) (encAll its) := by
  obtain ⟨i0, hi, hz0, hz1, hz2⟩ := info_parts Try.infoU8
  have H0 := hid_of (OS.empty w)
  have HI := hid_of h
  have HL := hid_of hL
  clear h hL
  go_enter Try.func13, Try.ntmps13
  go_wp2
  go_loopw [3, 4] (fun sv iv wr => ∃ (k n c : Nat) (ao : Option Addr), k ≤ its.length ∧ n ≤ 60000000000000 ∧ iv = .int .i64 k ∧ sv = .slice ao n c ∧ Hid (n = (encAll (its.take k)).length ∧ OS w.heap.size w wr (.slice ao n c) (encAll (its.take k)))) (fun _ i _ => its.length - (intOf i).toNat)
  case atStart => exact ⟨0, 0, 0, some ⟨w.heap.size, 0, none⟩, Nat.zero_le _, by omega, rfl, rfl, hid_of ⟨rfl, H0.out⟩⟩
  case round =>
    obtain ⟨k, n, c, ao, hk, hnb, rfl, rfl, hinv⟩ := hrel
    by_cases hlt : k < its.length
    · obtain ⟨x, hx⟩ : ∃ x, its[k]? = some x := ⟨its[k], by simp [hlt]⟩
      have hb := hinv.out.2.bel
      have ha := HI.out.lt (by omega)
      have c0 := (hb.cell (p := ⟨a, o + k * 3, none⟩) ha).trans (HI.out.c0 k x hx)
      have c1 := (hb.cell (p := ⟨a, o + k * 3 + 1, none⟩) ha).trans (HI.out.c1 k x hx)
      have c2 := (hb.cell (p := ⟨a, o + k * 3 + 2, none⟩) ha).trans (HI.out.c2 k x hx)
      have hok := HI.out.ok x (List.mem_of_getElem? hx)
      have HOK := hid_of hok
      have HSR := hid_of (It.srcs hok hb hinv.out.2.size)
      have hxl := encIt_le20 x hok.n hok.len
      have hxm := hok.len
      have hsum := HL.out (k + 1)
      rw [encAll_take_succ its k x hx, List.length_append, ← hinv.out.1] at hsum
      have HX := hid_of hx
      have HM1 : Hid (n + (encIt x).length ≤ maxLen) := hid_of (by unfold maxLen; omega)
      have HM2 : Hid ((n + (encIt x).length) * 1 ≤ 140737488355328) := hid_of (by omega)
      clear hx hb hok
      go_wp2_with (first
        | (go_at_call 34; refine (fput_any x _ HOK.out.n HOK.out.len HSR.out).mono ?_; rintro e w1 ⟨v1, rfl, h1⟩; have H1 := hid_of h1; have HA := hid_of (all_own hinv.out (OS.bel h1)); have HB := hid_of (all_size hinv.out (OS.bel h1)); have HC := hid_of (OS.later h1); obtain ⟨ao1, cap1, rfl⟩ := own_shape (OS.own h1); clear h1)
        | ((with_reducible refine wpList_append_src _ rfl (.tmp 12) (.tmp 17) 25 25 rfl w.heap.size 5 i0 (.int .u8 0) 1 1 Try.underlying25 hi hz0 hz1 hz2 rfl (by decide) (.slice ao n c) n (bs (encAll (its.take k))) rfl HA.out (.slice ao1 (encIt x).length cap1) (encIt x).length (bs (encIt x)) rfl HC.out HM1.out HM2.out HB.out ?_); intro v2 w2 hown2 hg2 _ _; have H2 := hid_of (all_app hinv.out (OS.bel H1.out) hown2 hg2); obtain ⟨ao2, cap2, rfl⟩ := own_shape hown2; clear hown2 hg2))
      go_roundw
      case rel =>
        refine ⟨k + 1, n + (encIt x).length, cap2, ao2, by omega, by omega, by go_num, rfl, hid_of ⟨?_, ?_⟩⟩
        · rw [encAll_take_succ its k x HX.out, List.length_append, ← hinv.out.1]
        · rw [encAll_take_succ its k x HX.out]
          exact H2.out
      case measure => simp [intOf]; omega
    · obtain rfl : k = its.length := by omega
      have h2 := hinv.out
      rw [List.take_length] at h2
      have H2 := hid_of h2
      clear h2
      go_wp2
      go_ret
      have h2 := H2.out
      exact ⟨ao, c, by rw [h2.1]; rfl, by rw [← h2.1]; exact h2.2⟩

end Go.Proofs.Ytijjaoabkbeeeaa
