/- The source of package random: New, Next, Skip, Intn, Split, Mix, Unmix, and the reference's Mix, At, High. No condition but bounds. -/
import Derived.Test.YtpmajdgabpmooaaRanMath
import Derived.Test.YtpmajdgabpmooaaRow
import Derived.Test.YtpmajdgabpmooaaProg
namespace Go.Proofs.Ytpmajdgabpmooaa
open Go.RowKit

theorem ret_int {k : IntKind} {a b : Int} (h : a = b) : Ending.returned (.int k a) = .returned (.int k b) := by rw [h]
theorem fold_any (z m : Int) (x n : Nat) (w : World) (hz : z = x) (hm : m = n) (hx : x < 18446744073709551616) (hn : n ≤ 63) (hn1 : 1 ≤ n) :
    Calls Try.prog 39 #[.int .u64 z, .int .u64 m] w fun e w' => e = .returned (.int .u64 ((fld x n : Nat) : Int)) ∧ w = w' := by
  subst hz hm
  have HX := hid_of hx
  clear hx
  go_enter Try.func39, Try.ntmps39
  go_wp2
  go_ret
  exact ⟨ret_int (fld_bits x n HX.out), rfl⟩
theorem unfold_n (x n : Nat) (w : World) (hx : x < 18446744073709551616) (hn : n ≤ 31) (hn1 : 1 ≤ n) :
    Calls Try.prog 38 #[.int .u64 x, .int .u64 n] w fun e w' => e = .returned (.int .u64 ((unf x n : Nat) : Int)) ∧ w = w' := by
  have HX := hid_of hx
  go_enter Try.func38, Try.ntmps38
  go_wp2
  go_ret
  exact ⟨ret_int (by rw [fld_bits x n HX.out]; exact unf_bits x n HX.out), rfl⟩
theorem unfold_any (z m : Int) (x n : Nat) (w : World) (hz : z = x) (hm : m = n) (hx : x < 18446744073709551616) (hn : n ≤ 31) (hn1 : 1 ≤ n) :
    Calls Try.prog 38 #[.int .u64 z, .int .u64 m] w fun e w' => e = .returned (.int .u64 ((unf x n : Nat) : Int)) ∧ w = w' := by
  subst hz hm; exact unfold_n x n w hx hn hn1
theorem ref_mul (a f : Nat) : IntKind.u64.wrap ((a : Int) * (f : Int)) = ((a * f % 18446744073709551616 : Nat) : Int) := by rw [IntKind.wrap_u64, Int.natCast_emod, Int.natCast_mul]; rfl
theorem mix_any (z : Int) (x : Nat) (w : World) (hz : z = x) (hx : x < 18446744073709551616) :
    Calls Try.prog 19 #[.int .u64 z] w fun e w' => e = .returned (.int .u64 ((mixN x : Nat) : Int)) ∧ w = w' := by
  subst hz
  have HX := hid_of hx
  clear hx
  obtain ⟨a, ha⟩ : ∃ a, a = fld x 30 := ⟨_, rfl⟩
  obtain ⟨b, hb⟩ : ∃ b, b = fld (a * 13787848793156543929 % 18446744073709551616) 27 := ⟨_, rfl⟩
  have HM : Hid (fld (b * 10723151780598845931 % 18446744073709551616) 31 = mixN x) := hid_of (by rw [hb, ha]; rfl)
  have HA := hid_of ha
  have HB := hid_of hb
  clear ha hb
  go_enter Try.func19, Try.ntmps19
  go_wp2_with (first
    | (go_at_call 39; ((with_reducible refine (fold_any (x : Int) 30 x 30 w rfl rfl HX.out (by omega) (by omega)).mono ?_); (rintro e w' ⟨rfl, rfl⟩; rw [← HA.out])))
    | (go_at_call 39; ((with_reducible refine (fold_any (IntKind.u64.wrap ((a : Int) * 13787848793156543929)) 27 (a * 13787848793156543929 % 18446744073709551616) 27 w (ref_mul a _) rfl (Nat.mod_lt _ (by omega)) (by omega) (by omega)).mono ?_); (rintro e w' ⟨rfl, rfl⟩; rw [← HB.out])))
    | (go_at_call 39; ((with_reducible refine (fold_any (IntKind.u64.wrap ((b : Int) * 10723151780598845931)) 31 (b * 10723151780598845931 % 18446744073709551616) 31 w (ref_mul b _) rfl (Nat.mod_lt _ (by omega)) (by omega) (by omega)).mono ?_); (rintro e w' ⟨rfl, rfl⟩; rw [HM.out]))))
  go_ret
  exact ⟨rfl, rfl⟩
theorem unmix_any (y : Nat) (w : World) (hx : y < 18446744073709551616) :
    Calls Try.prog 18 #[.int .u64 y] w fun e w' => e = .returned (.int .u64 ((unmixN y : Nat) : Int)) ∧ w = w' := by
  have HX := hid_of hx
  clear hx
  obtain ⟨a, ha⟩ : ∃ a, a = unf y 31 := ⟨_, rfl⟩
  obtain ⟨b, hb⟩ : ∃ b, b = unf (a * 3573116690164977347 % 18446744073709551616) 27 := ⟨_, rfl⟩
  have HM : Hid (unf (b * 10871156337175269513 % 18446744073709551616) 30 = unmixN y) := hid_of (by rw [hb, ha]; rfl)
  have HA := hid_of ha
  have HB := hid_of hb
  clear ha hb
  go_enter Try.func18, Try.ntmps18
  go_wp2_with (first
    | (go_at_call 38; ((with_reducible refine (unfold_any (y : Int) 31 y 31 w rfl rfl HX.out (by omega) (by omega)).mono ?_); (rintro e w' ⟨rfl, rfl⟩; rw [← HA.out])))
    | (go_at_call 38; ((with_reducible refine (unfold_any (IntKind.u64.wrap ((a : Int) * 3573116690164977347)) 27 (a * 3573116690164977347 % 18446744073709551616) 27 w (ref_mul a _) rfl (Nat.mod_lt _ (by omega)) (by omega) (by omega)).mono ?_); (rintro e w' ⟨rfl, rfl⟩; rw [← HB.out])))
    | (go_at_call 38; ((with_reducible refine (unfold_any (IntKind.u64.wrap ((b : Int) * 10871156337175269513)) 30 (b * 10871156337175269513 % 18446744073709551616) 30 w (ref_mul b _) rfl (Nat.mod_lt _ (by omega)) (by omega) (by omega)).mono ?_); (rintro e w' ⟨rfl, rfl⟩; rw [HM.out]))))
  go_ret
  exact ⟨rfl, rfl⟩
theorem rmix_any (z : Int) (x : Nat) (w : World) (hz : z = x) (hx : x < 18446744073709551616) :
    Calls Try.prog 37 #[.int .u64 z] w fun e w' => e = .returned (.int .u64 ((mixN x : Nat) : Int)) ∧ w = w' := by
  subst hz
  have HX := hid_of hx
  clear hx
  go_enter Try.func37, Try.ntmps37
  go_wp2
  go_ret
  refine ⟨ret_int ?_, rfl⟩
  have e1 : bits BinOp.xor IntKind.u64 (x : Int) ((x : Int) / 1073741824) = ((fld x 30 : Nat) : Int) := fld_bits x 30 HX.out
  obtain ⟨a, ha⟩ : ∃ a, a = fld x 30 := ⟨_, rfl⟩
  simp only [e1, ← ha]
  rw [show IntKind.u64.wrap ((a : Int) * 13787848793156543929) = ((a * 13787848793156543929 % 18446744073709551616 : Nat) : Int) from ref_mul a _]
  obtain ⟨b, hb⟩ : ∃ b, b = a * 13787848793156543929 % 18446744073709551616 := ⟨_, rfl⟩
  have hb2 : b < 18446744073709551616 := by rw [hb]; exact Nat.mod_lt _ (by omega)
  rw [← hb]
  have e2 : bits BinOp.xor IntKind.u64 (b : Int) ((b : Int) / 134217728) = ((fld b 27 : Nat) : Int) := fld_bits b 27 hb2
  rw [e2]
  rw [show IntKind.u64.wrap (((fld b 27 : Nat) : Int) * 10723151780598845931) = ((fld b 27 * 10723151780598845931 % 18446744073709551616 : Nat) : Int) from ref_mul _ _]
  have e3 : ∀ c : Nat, c < 18446744073709551616 → bits BinOp.xor IntKind.u64 (c : Int) ((c : Int) / 2147483648) = ((fld c 31 : Nat) : Int) := fun c hc => fld_bits c 31 hc
  rw [e3 _ (Nat.mod_lt _ (by omega)), hb, ha]
  rfl

/-- The source in block b has the state s. -/
def Sr (w : World) (b s : Nat) : Prop := s < 18446744073709551616 ∧ w.heap[b]? = some (.cells #[.int .u64 s] 55 (0, 0))
theorem Sr.lt {w : World} {b s : Nat} (h : Sr w b s) : b < w.heap.size := lt_of_block h.2
theorem Sr.bel {w w' : World} {b s : Nat} (h : Sr w b s) (hb : Below w.heap.size w w') : Sr w' b s := ⟨h.1, (hb.block b h.lt).trans h.2⟩
theorem Sr.kept {w w' : World} {b c s : Nat} (h : Sr w b s) (hk : Kept (fun k => k = c) w w') (hn : b ≠ c) : Sr w' b s := ⟨h.1, (hk.block b h.lt hn).trans h.2⟩

theorem new_any (s : Nat) (w : World) (hs : s < 18446744073709551616) :
    Calls Try.prog 13 #[.int .u64 s] w fun e w' => e = .returned (.pointer (some ⟨w.heap.size, 0, none⟩)) ∧ Sr w' w.heap.size s ∧ Below w.heap.size w w' := by
  have HS := hid_of hs
  go_enter Try.func13, Try.ntmps13
  go_wp2
  go_ret
  exact ⟨rfl, ⟨HS.out, heap_alloc_new _ _⟩, bel_alloc _ _⟩
theorem skip_any (b s : Nat) (z : Int) (n : Nat) (w : World) (hz : z = n) (hn : n < 18446744073709551616) (h : Sr w b s) :
    Calls Try.prog 17 #[.pointer (some ⟨b, 0, none⟩), .int .u64 z] w fun e w' => e = .returned (.tuple #[]) ∧ Sr w' b (atN s n) ∧ Kept (fun k => k = b) w w' := by
  subst hz
  have H := hid_of h
  have h0 := cell_of_one h.2
  have h1 := free_of_one h.2
  clear h
  go_enter Try.func17, Try.ntmps17
  go_wp2
  go_end0
  have e : IntKind.u64.wrap ((s : Int) + IntKind.u64.wrap ((n : Int) * 11400714819323198485)) = ((atN s n : Nat) : Int) := by
    rw [IntKind.wrap_u64, IntKind.wrap_u64]; unfold atN; omega
  rw [e]
  exact ⟨rfl, ⟨atN_lt _ _, one_setCell H.out.2⟩, Kept.set _ _ _ _⟩
theorem next_any (b s : Nat) (w : World) (h : Sr w b s) :
    Calls Try.prog 14 #[.pointer (some ⟨b, 0, none⟩)] w fun e w' => e = .returned (.int .u64 ((mixN (stepN s) : Nat) : Int)) ∧ Sr w' b (stepN s) ∧ Kept (fun k => k = b) w w' := by
  have H := hid_of h
  clear h
  go_enter Try.func14, Try.ntmps14
  go_wp2_with (go_at_call 17; refine (skip_any b s 1 1 w rfl (by omega) H.out).mono ?_; (rintro e w1 ⟨rfl, h1, hk1⟩; have H1 := hid_of h1; have HK1 := hid_of hk1; have c1 := cell_of_one h1.2; clear h1 hk1))
  go_wp2_with (go_at_call 19; refine (mix_any _ (atN s 1) w1 rfl (atN_lt _ _)).mono ?_; (rintro e w' ⟨rfl, rfl⟩))
  go_ret
  have e1 : atN s 1 = stepN s := by unfold atN stepN; omega
  rw [e1] at H1 ⊢
  exact ⟨rfl, H1.out, HK1.out⟩
theorem split_any (b s : Nat) (w : World) (h : Sr w b s) :
    Calls Try.prog 26 #[.pointer (some ⟨b, 0, none⟩)] w fun e w' => ∃ c, e = .returned (.pointer (some ⟨c, 0, none⟩)) ∧ w.heap.size ≤ c ∧ Sr w' c (mixN (stepN s)) ∧ Sr w' b (stepN s) ∧ Kept (fun k => k = b) w w' := by
  have H := hid_of h
  clear h
  go_enter Try.func26, Try.ntmps26
  go_wp2_with (first
    | (go_at_call 14; refine (next_any b s w H.out).mono ?_; (rintro e w1 ⟨rfl, h1, hk1⟩; have H1 := hid_of h1; have HK1 := hid_of hk1; clear h1 hk1))
    | (go_at_call 13; refine (new_any (mixN (stepN s)) w1 (mixN_lt _)).mono ?_; (rintro e w2 ⟨rfl, h2, hb2⟩; have H2 := hid_of h2; have HB2 := hid_of hb2; clear h2 hb2)))
  go_ret
  refine ⟨_, rfl, HK1.out.size, H2.out, H1.out.bel HB2.out, ?_⟩
  have hk := HK1.out
  have hb := HB2.out
  exact ⟨hb.os.trans hk.os, hb.tape.trans hk.tape, hb.output.trans hk.output, Nat.le_trans hk.size hb.size, fun k h1 h2 => (hb.block k (Nat.lt_of_lt_of_le h1 hk.size)).trans (hk.block k h1 h2)⟩
theorem at_any (z : Int) (seed n : Nat) (w : World) (hz : z = n) (hn : n < 18446744073709551616) (hs : seed < 18446744073709551616) :
    Calls Try.prog 15 #[.int .u64 seed, .int .u64 z] w fun e w' => e = .returned (.int .u64 ((mixN (atN seed n) : Nat) : Int)) ∧ w = w' := by
  subst hz
  have e : Hid (IntKind.u64.wrap ((seed : Int) + IntKind.u64.wrap ((n : Int) * 11400714819323198485)) = ((atN seed n : Nat) : Int)) := hid_of (by
    rw [IntKind.wrap_u64, IntKind.wrap_u64]; unfold atN; omega)
  go_enter Try.func15, Try.ntmps15
  go_wp2_with (go_at_call 37; refine (rmix_any _ (atN seed n) w e.out (atN_lt _ _)).mono ?_; (rintro e w' ⟨rfl, rfl⟩))
  go_ret
  exact ⟨rfl, rfl⟩
theorem mask32 (x : Nat) (h : x < 18446744073709551616) : bits .and .u64 (x : Int) 4294967295 = ((x % 4294967296 : Nat) : Int) := by
  have := u64_and_nat x 4294967295 h (by omega)
  rw [show ((4294967295 : Nat) : Int) = 4294967295 from rfl] at this
  rw [this]
  congr 1
  exact Nat.and_two_pow_sub_one_eq_mod x 32
theorem wrapu {k : Nat} (h : k < 18446744073709551616) : IntKind.u64.wrap (k : Int) = k := by rw [IntKind.wrap_u64]; omega
theorem prod_le {a c : Nat} (ha : a < 4294967296) (hc : c < 4294967296) : a * c ≤ 18446744065119617025 :=
  Nat.mul_le_mul (show a ≤ 4294967295 by omega) (show c ≤ 4294967295 by omega)
theorem mid_wrap {P1 P2 : Nat} (h1 : P1 ≤ 18446744065119617025) (h2 : P2 ≤ 18446744065119617025) : IntKind.u64.wrap (IntKind.u64.wrap (P2 : Int) + IntKind.u64.wrap (P1 : Int) / 4294967296) = ((P2 + P1 / 4294967296 : Nat) : Int) := by
  rw [wrapu (by omega), wrapu (by omega), IntKind.wrap_u64]; omega
theorem high_wrap (x n : Nat) (hx : x < 18446744073709551616) (hn : n < 18446744073709551616) :
    IntKind.u64.wrap (IntKind.u64.wrap (IntKind.u64.wrap ((x : Int) / 4294967296 * ((n : Int) / 4294967296)) + IntKind.u64.wrap (IntKind.u64.wrap ((x : Int) / 4294967296 * (((n % 4294967296 : Nat)) : Int)) + IntKind.u64.wrap (((x % 4294967296 : Nat) : Int) * ((n % 4294967296 : Nat) : Int)) / 4294967296) / 4294967296) +
      IntKind.u64.wrap (IntKind.u64.wrap (((x % 4294967296 : Nat) : Int) * ((n : Int) / 4294967296)) + bits .and .u64 (IntKind.u64.wrap (IntKind.u64.wrap ((x : Int) / 4294967296 * ((n % 4294967296 : Nat) : Int)) + IntKind.u64.wrap (((x % 4294967296 : Nat) : Int) * ((n % 4294967296 : Nat) : Int)) / 4294967296)) 4294967295) / 4294967296) = ((highN x n : Nat) : Int) ∧
    IntKind.u64.wrap (IntKind.u64.wrap (IntKind.u64.wrap ((x : Int) / 4294967296 * ((n : Int) / 4294967296)) + IntKind.u64.wrap (IntKind.u64.wrap ((x : Int) / 4294967296 * (((n % 4294967296 : Nat)) : Int)) + IntKind.u64.wrap (((x % 4294967296 : Nat) : Int) * ((n % 4294967296 : Nat) : Int)) / 4294967296) / 4294967296) +
      IntKind.u64.wrap (bits .and .u64 (IntKind.u64.wrap (IntKind.u64.wrap ((x : Int) / 4294967296 * ((n % 4294967296 : Nat) : Int)) + IntKind.u64.wrap (((x % 4294967296 : Nat) : Int) * ((n % 4294967296 : Nat) : Int)) / 4294967296)) 4294967295 + IntKind.u64.wrap (((x % 4294967296 : Nat) : Int) * ((n : Int) / 4294967296))) / 4294967296) = ((highN x n : Nat) : Int) := by
  rw [high_halves]
  have q1 : (x : Int) / 4294967296 = ((x / 4294967296 : Nat) : Int) := by omega
  have q2 : (n : Int) / 4294967296 = ((n / 4294967296 : Nat) : Int) := by omega
  rw [q1, q2]
  have ha : x / 4294967296 < 4294967296 := by omega
  have hb : x % 4294967296 < 4294967296 := by omega
  have hc : n / 4294967296 < 4294967296 := by omega
  have hd : n % 4294967296 < 4294967296 := by omega
  generalize x / 4294967296 = a at *
  generalize x % 4294967296 = b at *
  generalize n / 4294967296 = c at *
  generalize n % 4294967296 = d at *
  have p1 := prod_le ha hc
  have p2 := prod_le ha hd
  have p3 := prod_le hb hc
  have p4 := prod_le hb hd
  simp only [← Int.natCast_mul]
  generalize a * c = A at *
  generalize a * d = B at *
  generalize b * c = C at *
  generalize b * d = D at *
  rw [mid_wrap p4 p2, mask32 _ (by omega), wrapu (show A < 18446744073709551616 by omega), wrapu (show C < 18446744073709551616 by omega)]
  simp only [IntKind.wrap_u64]
  constructor <;> omega
theorem rhigh_any (x n : Nat) (w : World) (hx : x < 18446744073709551616) (hn : n < 18446744073709551616) :
    Calls Try.prog 21 #[.int .u64 x, .int .u64 n] w fun e w' => e = .returned (.int .u64 ((highN x n : Nat) : Int)) ∧ w = w' := by
  have HX := hid_of hx
  have HN := hid_of hn
  have m1 := mask32 x hx
  have m2 := mask32 n hn
  clear hx hn
  go_enter Try.func21, Try.ntmps21
  go_wp2
  go_ret
  exact ⟨ret_int (high_wrap x n HX.out HN.out).1, rfl⟩
theorem mul64_any (x n : Nat) (w : World) (hx : x < 18446744073709551616) (hn : n < 18446744073709551616) :
    Calls Try.prog 40 #[.int .u64 x, .int .u64 n] w fun e w' => (∃ z : Int, e = .returned (.tuple #[.int .u64 ((highN x n : Nat) : Int), .int .u64 z])) ∧ w = w' := by
  have HX := hid_of hx
  have HN := hid_of hn
  have m1 := mask32 x hx
  have m2 := mask32 n hn
  clear hx hn
  go_enter Try.func40, Try.ntmps40
  go_wp2
  go_ret2
  rw [← (high_wrap x n HX.out HN.out).2]
  exact ⟨⟨_, rfl⟩, rfl⟩
def SomeInt (n : Int) (k : Nat) (e : Ending) : Prop := e = .returned (.int .i64 k) ∧ (k : Int) < n
theorem intn_any (b s : Nat) (n : Nat) (z : Int) (w : World) (hz : z = n) (h : Sr w b s) (hn : 1 ≤ n) (hn2 : n ≤ 9223372036854775807) :
    Calls Try.prog 20 #[.pointer (some ⟨b, 0, none⟩), .int .i64 z] w fun e w' => e = .returned (.int .i64 ((highN (mixN (stepN s)) n : Nat) : Int)) ∧ Sr w' b (stepN s) ∧ Kept (fun k => k = b) w w' := by
  subst hz
  have H := hid_of h
  have HN2 := hid_of hn2
  have hlt := highN_lt (x := mixN (stepN s)) (mixN_lt _) (show 0 < n by omega)
  obtain ⟨r, hr⟩ : ∃ r, r = highN (mixN (stepN s)) n := ⟨_, rfl⟩
  rw [← hr] at hlt ⊢
  have HR := hid_of hr
  have h1 : decide ((n : Int) < 1) = false := by simp; omega
  have hw : IntKind.u64.wrap (n : Int) = n := wrapu (by omega)
  have hw2 : IntKind.i64.wrap (r : Int) = r := IntWalk.i64_in _ (by omega)
  clear h hr hn2
  go_enter Try.func20, Try.ntmps20
  go_wp2_with (first
    | (go_at_call 14; refine (next_any b s w H.out).mono ?_; (rintro e w1 ⟨rfl, h1, hk1⟩; have H1 := hid_of h1; have HK1 := hid_of hk1; clear h1 hk1))
    | (go_at_call 40; refine (mul64_any (mixN (stepN s)) n w1 (mixN_lt _) (by have := HN2.out; omega)).mono ?_; (rintro e w2 ⟨⟨z, rfl⟩, rfl⟩; rw [← HR.out])))
  go_ret
  exact ⟨rfl, H1.out, HK1.out⟩
theorem intn_none (b : Nat) (z : Int) (w : World) (hn : z < 1) :
    Calls Try.prog 20 #[.pointer (some ⟨b, 0, none⟩), .int .i64 z] w fun e w' => e = .returned (.int .i64 0) ∧ w = w' := by
  go_enter Try.func20, Try.ntmps20
  go_wp2
  go_ret
  exact ⟨rfl, rfl⟩
end Go.Proofs.Ytpmajdgabpmooaa
