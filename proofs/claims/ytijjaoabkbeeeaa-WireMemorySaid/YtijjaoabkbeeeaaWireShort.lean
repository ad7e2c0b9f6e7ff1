/- The walks of the laws on one number: WireShort, WireSigned. No condition. -/
import Derived.Test.YtijjaoabkbeeeaaWireItems
import Derived.OpenShut
namespace Go.Proofs.Ytijjaoabkbeeeaa
open Go.RowKit

theorem one_item (W : World) (kind : Int) (n : Nat) (hn : n < 18446744073709551616) :
    Items (W.alloc (.cells #[.int .i64 kind, .int .u64 n, .slice none 0 0] 32)).heap.size (W.alloc (.cells #[.int .i64 kind, .int .u64 n, .slice none 0 0] 32)) W.heap.size 0 [⟨kind, n, none, [], 0⟩] := by
  have hc := fun j => cell_of_row _ W.heap.size j _ _ _ (heap_alloc_new W (.cells #[.int .i64 kind, .int .u64 n, .slice none 0 0] 32))
  refine ⟨fun _ => by simp, ?_, ?_, ?_, ?_⟩
  · intro i x hx
    match i, hx with
    | 0, hx => simp at hx; subst hx; rw [hc]; rfl
  · intro i x hx
    match i, hx with
    | 0, hx => simp at hx; subst hx; rw [hc]; rfl
  · intro i x hx
    match i, hx with
    | 0, hx => simp at hx; subst hx; rw [hc]; rfl
  · intro x hx
    simp at hx
    subst hx
    exact ⟨hn, by simp, fun _ => rfl, fun y hy => by simp at hy, fun h => by simp at h⟩

theorem encAll_one (x : It) : encAll [x] = encIt x := by simp [encAll]
theorem encAll_take_one (x : It) (hn : x.n < 18446744073709551616) (hm : x.m = []) : ∀ k, (encAll ([x].take k)).length ≤ 60000000000000 := by
  intro k
  cases k with
  | zero => simp [encAll]
  | succ k =>
    have := encIt_le20 x hn (by rw [hm]; simp)
    rw [hm] at this
    simp at this
    rw [List.take_of_length_le (by simp), encAll_one]
    omega

/-- What written gives at one item that bears no bytes. -/
theorem written_one (kind : Int) (n L : Nat) (l : List Int) (W : World) (hn : n < 18446744073709551616) (hl : encIt ⟨kind, n, none, [], 0⟩ = l) (hL : l.length = L) :
    Calls Try.prog 12 #[.slice (some ⟨W.heap.size, 0, none⟩) 1 1] (W.alloc (.cells #[.int .i64 kind, .int .u64 n, .slice none 0 0] 32)) fun e w' => ∃ g, e = .returned (.slice (some ⟨g, 0, none⟩) L L) ∧
      w'.heap[g]? = some (.cells (bs l).toArray 5 (0, 0)) ∧ W.heap.size ≤ g ∧ Below W.heap.size W w' := by
  refine (written_any W.heap.size 0 [⟨kind, n, none, [], 0⟩] 1 _ (one_item W kind n hn) (by simp) (encAll_take_one _ hn rfl)).mono fun e w' ⟨g, he, h1, h2, h3⟩ => ⟨g, ?_, ?_, ?_, ?_⟩
  · rw [he, encAll_one, hl, hL]
  · rw [h1, encAll_one, hl]
  · simp at h2; omega
  · exact ((Below.refl _ _).alloc (Nat.le_refl _) _).trans (h3.mono (by simp))

theorem enc_mono : ∀ (k n m : Nat), n ≤ k → n ≤ m → (enc n).length ≤ (enc m).length := by
  intro k
  induction k with
  | zero => intro n m h1 _; rw [enc_lt (by omega : n < 128)]; exact enc_length_pos m
  | succ k ih =>
    intro n m h1 h2
    by_cases hn : n < 128
    · rw [enc_lt hn]; exact enc_length_pos m
    · rw [enc_ge hn, enc_ge (by omega : ¬ m < 128)]
      have := ih (n / 128) (m / 128) (by omega) (Nat.div_le_div_right h2)
      simp only [List.length_cons]
      omega

/-- The groups that are still to count. -/
def rest (x : Nat) : Nat := if x = 0 then 0 else (enc x).length
theorem rest_step {x : Nat} (h : x ≠ 0) : rest x = rest (x / 128) + 1 := by
  unfold rest
  rw [if_neg h]
  by_cases h1 : x < 128
  · rw [enc_lt h1, if_pos (by omega)]; rfl
  · rw [enc_ge h1, if_neg (by omega)]; simp
theorem rest_le (x : Nat) (h : x < 18446744073709551616) : rest x ≤ 10 := by
  unfold rest; split
  · omega
  · exact enc_length_10 x h
theorem enc_rest (n : Nat) : (enc n).length = 1 + rest (n / 128) := by
  by_cases h : n = 0
  · subst h; rw [enc_lt (by omega)]; rfl
  · have := rest_step h
    unfold rest at this
    rw [if_neg h] at this
    unfold rest
    omega

set_option maxHeartbeats 1600000 in
theorem short_walk (n m : Nat) (w : World) (hn : n < 18446744073709551616) (hm : m < 18446744073709551616) :
    Calls Try.prog 7 #[.int .u64 n, .int .u64 m] w fun e w' => e = .returned (.bool true) ∧ Below w.heap.size w w' := by
  have a1 := enc_length_10 n hn
  have a2 := enc_length_10 m hm
  go_enter Try.func7, Try.ntmps7
  go_wp2_with (first
    | (go_at_call 10; refine (awake_any w).mono ?_; rintro e w1 ⟨rfl, h1⟩; have H1 := hid_of h1; clear h1)
    | (go_at_call 12; (first
        | ((with_reducible refine (written_one 0 n (enc n).length (enc n) w1 hn (encIt0 n none [] 0) rfl).mono ?_); rintro e w2 ⟨g2, rfl, _, _, h2⟩; have H2 := hid_of h2; clear h2)
        | ((with_reducible refine (written_one 0 m (enc m).length (enc m) w2 hm (encIt0 m none [] 0) rfl).mono ?_); rintro e w3 ⟨g3, rfl, _, _, h3⟩; have H3 := hid_of h3; clear h3))))
  have a3 := enc_rest n
  have HB := hid_of (((H1.out.trans (H2.out.mono H1.out.size)).trans (H3.out.mono (Nat.le_trans H1.out.size H2.out.size))))
  have hmono := hid_of (enc_mono n n m (Nat.le_refl n))
  go_loop [7, 8] (fun gv xv => ∃ q X : Nat, gv = .int .i64 q ∧ xv = .int .u64 X ∧ q ≤ 11 ∧ X < 18446744073709551616 ∧ Hid (q + rest X = (enc n).length)) (fun _ x => (intOf x).toNat)
  case atStart => exact ⟨1, n / 128, rfl, rfl, by omega, by omega, hid_of a3.symm⟩
  case round =>
    obtain ⟨q, X, rfl, rfl, hq, hX, hinv⟩ := hrel
    have hr := rest_le X hX
    by_cases h0 : X = 0
    · subst h0
      have hq2 : q = (enc n).length := by have := hinv.out; simpa [rest] using this
      have HQ := hid_of hq2
      have e1 : (((enc n).length : Int) == (q : Int)) = true := by simp; omega
      clear hq2 hr a3
      by_cases hnm : m < n
      · have e2 : decide ((m : Int) < (n : Int)) = true := by simp; omega
        go_wp2
        go_ret
        exact ⟨rfl, HB.out⟩
      · have e2 : decide ((m : Int) < (n : Int)) = false := by simp; omega
        have e3 : decide ((enc n).length ≤ (enc m).length) = true := by have := hmono.out (by omega); simp; omega
        go_wp2
        go_ret
        exact ⟨rfl, HB.out⟩
    · have hb : ((X : Int) != 0) = true := by simp; omega
      have hst := rest_step h0
      have hi2 := hinv.out
      have hq3 : q ≤ 10 := by omega
      have HST := hid_of hst
      clear hst hi2 a3
      go_wp2
      go_round
      case rel => exact ⟨q + 1, X / 128, by go_num, by go_num, by omega, by omega, hid_of (by have := hinv.out; have := HST.out; omega)⟩
      case measure => simp [intOf]; omega

theorem short_law (a b : Int) (h0 : (Lit.int .u64 a).wf = true) (h1 : (Lit.int .u64 b).wf = true) (w : World) :
    Calls Try.prog 7 #[.int .u64 a, .int .u64 b] w fun e w' => e = .returned (.bool true) ∧ Below w.heap.size w w' := by
  have ha := bounds_u64 h0
  have hb := bounds_u64 h1
  have := short_walk a.toNat b.toNat w (by omega) (by omega)
  rw [show ((a.toNat : Nat) : Int) = a by omega, show ((b.toNat : Nat) : Int) = b by omega] at this
  exact this

theorem decAt_enc : ∀ (k n i acc : Nat) (r : List Int), n ≤ k → i < 10 → n < 128 ^ (10 - i) → n * 128 ^ i < 18446744073709551616 → 0 < n ∨ i = 0 → decAt (10 - i) i acc (enc n ++ r) = some (acc + n * 128 ^ i, i + (enc n).length) := by
  intro k
  induction k with
  | zero =>
    intro n i acc r h1 h2 h3 h4 h5
    obtain rfl : n = 0 := by omega
    obtain rfl : i = 0 := by omega
    rw [enc_lt (by omega)]; rfl
  | succ k ih =>
    intro n i acc r h1 h2 h3 h4 h5
    by_cases hn : n < 128
    · rw [enc_lt hn, List.singleton_append, decAt_cons i acc _ _ h2, if_neg (by omega)]
      have hm : mayEnd i (n : Int) = true := by
        unfold mayEnd
        rcases h5 with h5 | h5
        · by_cases h9 : i < 9
          · simp [h9]; omega
          · obtain rfl : i = 9 := by omega
            have : (128 : Nat) ^ 9 = 9223372036854775808 := by decide
            simp; omega
        · simp [h5]
      rw [if_pos hm]
      simp
    · have hi : i + 1 < 10 := by
        rcases Nat.lt_or_ge (i + 1) 10 with h | h
        · exact h
        · obtain rfl : i = 9 := by omega
          simp at h3; omega
      rw [enc_ge hn, List.cons_append, decAt_cons i acc _ _ h2, if_pos (by omega)]
      have e1 : (((n % 128 + 128 : Nat) : Int) - 128).toNat = n % 128 := by omega
      have e2 : 128 ^ (i + 1) = 128 ^ i * 128 := Nat.pow_succ 128 i
      have e3 : n / 128 * 128 ^ (i + 1) + n % 128 * 128 ^ i = n * 128 ^ i := by
        rw [e2, Nat.mul_comm (128 ^ i) 128, ← Nat.mul_assoc, ← Nat.add_mul, show n / 128 * 128 + n % 128 = n by omega]
      rw [e1, ih (n / 128) (i + 1) _ r (by omega) hi ?_ (by omega) (by left; omega)]
      · have q1 : acc + n % 128 * 128 ^ i + n / 128 * 128 ^ (i + 1) = acc + n * 128 ^ i := by rw [← e3, Nat.add_assoc, Nat.add_comm (n % 128 * 128 ^ i)]
        have q2 : i + 1 + (enc (n / 128)).length = i + ((enc (n / 128)).length + 1) := by omega
        rw [q1, q2, List.length_cons]
      · have e4 : 10 - i = 10 - (i + 1) + 1 := by omega
        rw [e4, Nat.pow_succ] at h3
        exact Nat.div_lt_of_lt_mul (by rw [Nat.mul_comm]; exact h3)

theorem dec_enc (n : Nat) (r : List Int) (h : n < 18446744073709551616) : dec (enc n ++ r) = some (n, (enc n).length) := by
  have hp : (128 : Nat) ^ (10 - 0) = 1180591620717411303424 := by decide
  have := decAt_enc n n 0 0 r (Nat.le_refl _) (by omega) (by rw [hp]; omega) (by rw [Nat.pow_zero]; omega) (Or.inr rfl)
  rw [Nat.pow_zero, Nat.mul_one, Nat.zero_add, Nat.zero_add] at this
  exact this

theorem rng_encIt (x : It) (h : ∀ y ∈ x.m, 0 ≤ y ∧ y ≤ 255) : ∀ y ∈ encIt x, 0 ≤ y ∧ y ≤ 255 := by
  intro y hy
  unfold encIt at hy
  split at hy
  · exact enc_byte _ y hy
  · split at hy
    · exact enc_byte _ y hy
    · split at hy
      · simp at hy; split at hy <;> omega
      · rcases List.mem_append.1 hy with hy | hy
        · exact enc_byte _ y hy
        · exact h y hy

set_option maxHeartbeats 1600000 in
theorem signed_walk (n : Int) (w : World) (n0 : -9223372036854775808 ≤ n) (n1 : n ≤ 9223372036854775807) :
    Calls Try.prog 8 #[.int .i64 n] w fun e w' => e = .returned (.bool true) ∧ Below w.heap.size w w' := by
  obtain ⟨N, hN⟩ : ∃ N : Nat, N = (n % 18446744073709551616).toNat := ⟨_, rfl⟩
  have hNl : N < 18446744073709551616 := by omega
  have hsg : sgn N = n := by unfold sgn wrap64; omega
  have hu : IntKind.u64.wrap n = (N : Int) := by rw [IntKind.wrap_u64]; omega
  have hz := zig_lt n n0 n1
  have HE : Hid (encIt ⟨1, N, none, [], 0⟩ = enc (zig n)) := hid_of (by rw [encIt1, hsg])
  have HR := hid_of (enc_byte (zig n))
  have hel := enc_length_10 (zig n) hz
  have HD := hid_of (dec_enc (zig n) [] hz)
  obtain ⟨l, hl⟩ : ∃ l, l = enc (zig n) := ⟨_, rfl⟩
  rw [List.append_nil, ← hl] at HD
  rw [← hl] at HE HR hel
  by_cases hn : 0 ≤ n
  · have e1 : ((zig n : Int) == IntKind.u64.wrap (2 * (N : Int))) = true := by
      rw [IntKind.wrap_u64]
      have : zig n = (2 * n).toNat := by unfold zig; rw [if_pos hn]
      simp only [beq_iff_eq]
      omega
    clear hl hN hsg
    go_enter Try.func8, Try.ntmps8
    go_wp2_with (first
      | (go_at_call 10; refine (awake_any w).mono ?_; rintro e w1 ⟨rfl, h1⟩; have H1 := hid_of h1; clear h1)
      | (go_at_call 12; refine (written_one 1 N l.length l w1 hNl HE.out rfl).mono ?_; rintro e w2 ⟨g2, rfl, hr2, _, h2⟩; have H2 := hid_of h2; have HR2 := hid_of hr2; clear h2 hr2)
      | (go_at_call 14; refine (newReader_any _ l l.length w2 HR.out (by omega) (row_src HR2.out)).mono ?_; rintro e w3 ⟨b, g, rfl, h3, hb3, hbb, _⟩; have H3 := hid_of h3; have HB3 := hid_of hb3; have HBB := hid_of hbb; clear h3 hb3 hbb)
      | (go_at_call 20; refine (ruint_ok b g 0 0 (zig n) l.length l w3 H3.out HD.out).mono ?_; rintro e w4 ⟨rfl, h4⟩; have H4 := hid_of h4; clear h4)
      | (go_at_call 19; refine (end_ok b g (0 + l.length) 0 l w4 (RTo.st H4.out) (by omega)).mono ?_; rintro e w5 ⟨rfl, m5, rfl⟩))
    go_ret
    exact ⟨rfl, (H1.out.trans ((H2.out.trans (HB3.out.mono H2.out.size)).mono H1.out.size)).trans ((below_drewN (H4.out.2.1.below (B := w.heap.size) (Nat.le_trans H1.out.size (Nat.le_trans H2.out.size HB3.out.size)) (fun k hk => by have := HBB.out; have := H1.out.size; have := H2.out.size; omega)) m5))⟩
  · have e0 : zig n = (-2 * n - 1).toNat := by unfold zig; rw [if_neg hn]
    have e1 : (((zig n : Int) % 2) == 1) = true := by simp; omega
    have e2 : (((zig n : Int) / 2) == -(n + 1)) = true := by simp; omega
    clear hl hN hsg e0
    go_enter Try.func8, Try.ntmps8
    go_wp2_with (first
      | (go_at_call 10; refine (awake_any w).mono ?_; rintro e w1 ⟨rfl, h1⟩; have H1 := hid_of h1; clear h1)
      | (go_at_call 12; refine (written_one 1 N l.length l w1 hNl HE.out rfl).mono ?_; rintro e w2 ⟨g2, rfl, hr2, _, h2⟩; have H2 := hid_of h2; have HR2 := hid_of hr2; clear h2 hr2)
      | (go_at_call 14; refine (newReader_any _ l l.length w2 HR.out (by omega) (row_src HR2.out)).mono ?_; rintro e w3 ⟨b, g, rfl, h3, hb3, hbb, _⟩; have H3 := hid_of h3; have HB3 := hid_of hb3; have HBB := hid_of hbb; clear h3 hb3 hbb)
      | (go_at_call 20; refine (ruint_ok b g 0 0 (zig n) l.length l w3 H3.out HD.out).mono ?_; rintro e w4 ⟨rfl, h4⟩; have H4 := hid_of h4; clear h4)
      | (go_at_call 19; refine (end_ok b g (0 + l.length) 0 l w4 (RTo.st H4.out) (by omega)).mono ?_; rintro e w5 ⟨rfl, m5, rfl⟩))
    go_ret
    exact ⟨rfl, (H1.out.trans ((H2.out.trans (HB3.out.mono H2.out.size)).mono H1.out.size)).trans ((below_drewN (H4.out.2.1.below (B := w.heap.size) (Nat.le_trans H1.out.size (Nat.le_trans H2.out.size HB3.out.size)) (fun k hk => by have := HBB.out; have := H1.out.size; have := H2.out.size; omega)) m5))⟩

theorem signed_law (a : Int) (h0 : (Lit.int .i64 a).wf = true) (w : World) :
    Calls Try.prog 8 #[.int .i64 a] w fun e w' => e = .returned (.bool true) ∧ Below w.heap.size w w' := by
  have ha := bounds_i64 h0
  exact signed_walk a w (by omega) (by omega)

end Go.Proofs.Ytijjaoabkbeeeaa
