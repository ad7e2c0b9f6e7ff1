/- The contracts of the Reader of package wire. No condition but bounds on sizes. -/
import Derived.Test.YtoogcafceghdjaaWireWS
import Derived.Deep.QuietTactic
import Derived.BigQuiet
namespace Go.Proofs.Ytoogcafceghdjaa.Wr
open Go.RowKit

/-- May a number end with the group g at place i? -/
def mayEnd (i : Nat) (g : Int) : Bool := decide (i = 0) || (decide (g ≠ 0) && (decide (i < 9) || decide (g = 1)))

/-- Reading a number from place i on: what was read so far is acc. -/
def decAt : Nat → Nat → Nat → List Int → Option (Nat × Nat)
  | 0, _, _, _ => none
  | _ + 1, _, _, [] => none
  | f + 1, i, acc, g :: r => if 128 ≤ g then decAt f (i + 1) (acc + (g - 128).toNat * 128 ^ i) r else if mayEnd i g then some (acc + g.toNat * 128 ^ i, i + 1) else none
def dec (l : List Int) : Option (Nat × Nat) := decAt 10 0 0 l

/-- The Reader in block b, its bytes in block g. -/
structure Rst (w : World) (b g : Nat) (d : List Int) (off last : Nat) (err : Int) : Prop where
  blk : w.heap[b]? = some (.cells #[.slice (some ⟨g, 0, none⟩) d.length d.length, .int .i64 off, .int .i64 last, .int .i64 err] 81 (0, 0))
  row : w.heap[g]? = some (.cells (bs d).toArray 5 (0, 0))
  rng : ∀ x ∈ d, 0 ≤ x ∧ x ≤ 255
  le : off ≤ d.length
  small : d.length ≤ 140737488351232

theorem Rst.c0 {w : World} {b g off last : Nat} {d : List Int} {err : Int} (h : Rst w b g d off last err) : w.cell? ⟨b, 0, none⟩ = some (.slice (some ⟨g, 0, none⟩) d.length d.length) := by rw [cell_of_row _ _ _ _ _ _ h.blk]; rfl
theorem Rst.c1 {w : World} {b g off last : Nat} {d : List Int} {err : Int} (h : Rst w b g d off last err) : w.cell? ⟨b, 1, none⟩ = some (.int .i64 off) := by rw [cell_of_row _ _ _ _ _ _ h.blk]; rfl
theorem Rst.c2 {w : World} {b g off last : Nat} {d : List Int} {err : Int} (h : Rst w b g d off last err) : w.cell? ⟨b, 2, none⟩ = some (.int .i64 last) := by rw [cell_of_row _ _ _ _ _ _ h.blk]; rfl
theorem Rst.c3 {w : World} {b g off last : Nat} {d : List Int} {err : Int} (h : Rst w b g d off last err) : w.cell? ⟨b, 3, none⟩ = some (.int .i64 err) := by rw [cell_of_row _ _ _ _ _ _ h.blk]; rfl
theorem Rst.free {w : World} {b g off last : Nat} {d : List Int} {err : Int} (h : Rst w b g d off last err) (j : Nat) : w.frozen? ⟨b, j, none⟩ = false := by simp [World.frozen?, h.blk]
theorem Rst.byte {w : World} {b g off last : Nat} {d : List Int} {err : Int} (h : Rst w b g d off last err) {j : Nat} (hj : j < d.length) : w.cell? ⟨g, j, none⟩ = some (.int .u8 d[j]) := by
  rw [cell_of_row _ _ _ _ _ _ h.row]; simp [bs, hj]
theorem Rst.drewN {w : World} {b g off last : Nat} {d : List Int} {err : Int} (h : Rst w b g d off last err) (m : Nat) : Rst (w.drewN m) b g d off last err := ⟨h.blk, h.row, h.rng, h.le, h.small⟩

set_option maxHeartbeats 400000 in
theorem mayEnd_any (i : Nat) (g : Int) (w : World) (hi : i < 10) (h0 : 0 ≤ g) (h1 : g ≤ 255) :
    Calls Try.prog 86 #[.int .i64 i, .int .u8 g] w fun e w' => e = .returned (.bool (mayEnd i g)) ∧ w = w' := by
  by_cases h2 : i = 0
  · subst h2
    go_enter Try.func86, Try.ntmps86
    go_wp2
    go_ret
    exact ⟨rfl, rfl⟩
  · have hb : ((i : Int) == 0) = false := by simp; omega
    by_cases h3 : g = 0
    · subst h3
      go_enter Try.func86, Try.ntmps86
      go_wp2
      go_ret
      exact ⟨by simp [mayEnd, h2], rfl⟩
    · have hb3 : (g != 0) = true := by simp; omega
      by_cases h4 : i < 9
      · have hb4 : decide ((i : Int) < 9) = true := by simp; omega
        go_enter Try.func86, Try.ntmps86
        go_wp2
        go_ret
        exact ⟨by simp [mayEnd, h2, h3, h4], rfl⟩
      · have hb4 : decide ((i : Int) < 9) = false := by simp; omega
        go_enter Try.func86, Try.ntmps86
        go_wp2
        go_ret
        exact ⟨by simp [mayEnd, h2, h3, h4]; rfl, rfl⟩

/-- What number returns. -/
def numRes (off : Nat) : Option (Nat × Nat) → Value
  | some (n, k) => .tuple #[.int .u64 n, .int .i64 ((off + k : Nat) : Int), .bool true]
  | none => .tuple #[.int .u64 0, .int .i64 0, .bool false]

theorem ret3_num {a b c d : Int} (h1 : a = b) (h2 : c = d) : Ending.returned (.tuple #[.int .u64 a, .int .i64 c, .bool true]) = Ending.returned (.tuple #[.int .u64 b, .int .i64 d, .bool true]) := by rw [h1, h2]

def Drew (w w' : World) : Prop := ∃ m, w' = w.drewN m

theorem or_form (x i : Nat) (y : Int) (h0 : 0 ≤ y) (h1 : y ≤ 255) (hx : x < 18446744073709551616) :
    bits BinOp.or IntKind.u64 (x : Int) (IntKind.u64.wrap (IntKind.u64.wrap (bits BinOp.and IntKind.u8 y 127) * 2 ^ (7 * i))) = ((x ||| (y.toNat % 128 * 2 ^ (7 * i) % 18446744073709551616) : Nat) : Int) := by
  have e1 : bits BinOp.and IntKind.u8 y 127 = ((y.toNat % 128 : Nat) : Int) := by
    have := u8_and y 127 h0 (by omega) (by omega) (by omega)
    rw [show (127 : Int).toNat = 127 from rfl, nat_mask7] at this
    exact this
  have e2 : IntKind.u64.wrap (IntKind.u64.wrap ((y.toNat % 128 : Nat) : Int) * 2 ^ (7 * i)) = ((y.toNat % 128 * 2 ^ (7 * i) % 18446744073709551616 : Nat) : Int) := by
    have hz : y.toNat % 128 < 128 := Nat.mod_lt _ (by decide)
    generalize y.toNat % 128 = z at hz
    rw [IntKind.wrap_u64, IntKind.wrap_u64]
    have e3 : (z : Int) % 18446744073709551616 = (z : Int) := by omega
    rw [e3]
    simp only [Int.natCast_emod, Int.natCast_mul, Int.natCast_pow]
    rfl
  rw [e1, e2]
  exact u64_or_nat _ _ hx (Nat.mod_lt _ (by decide))

theorem or_val (x z i : Nat) (hx : x < 128 ^ i) (hz : z * 128 ^ i < 18446744073709551616) : x ||| (z * 2 ^ (7 * i) % 18446744073709551616) = x + z * 128 ^ i := by
  have e : 2 ^ (7 * i) = 128 ^ i := by rw [Nat.pow_mul]
  rw [e, Nat.mod_eq_of_lt hz, Nat.or_comm, Nat.add_comm]
  rw [← e] at hx ⊢
  exact nat_join (7 * i) _ _ (Nat.mul_mod_left _ _) hx

theorem or_lt (x i : Nat) (z : Nat) (hx : x < 18446744073709551616) : x ||| (z * 2 ^ (7 * i) % 18446744073709551616) < 18446744073709551616 :=
  Nat.or_lt_two_pow (n := 64) hx (Nat.mod_lt _ (by decide))

theorem pow_le9 (i : Nat) (h : i ≤ 8) : 128 ^ (i + 1) ≤ 9223372036854775808 := by
  have : 128 ^ (i + 1) ≤ 128 ^ 9 := Nat.pow_le_pow_right (by decide) (by omega)
  exact this

theorem decAt_nil (i acc : Nat) (h : i < 10) : decAt (10 - i) i acc [] = none := by
  obtain ⟨f, hf⟩ : ∃ f, 10 - i = f + 1 := ⟨9 - i, by omega⟩
  rw [hf]; rfl
theorem decAt_cons (i acc : Nat) (y : Int) (r : List Int) (h : i < 10) :
    decAt (10 - i) i acc (y :: r) = if 128 ≤ y then decAt (10 - (i + 1)) (i + 1) (acc + (y - 128).toNat * 128 ^ i) r else if mayEnd i y then some (acc + y.toNat * 128 ^ i, i + 1) else none := by
  obtain ⟨f, hf⟩ : ∃ f, 10 - i = f + 1 := ⟨9 - i, by omega⟩
  have hf2 : 10 - (i + 1) = f := by omega
  rw [hf, hf2]; rfl
theorem drop_at {d : List Int} {k : Nat} {y : Int} (h : k < d.length) (hy : y = d[k]) : d.drop k = y :: d.drop (k + 1) := by
  rw [List.drop_eq_getElem_cons h, hy]

set_option maxHeartbeats 1000000 in
theorem number_any (b g off last : Nat) (d : List Int) (err : Int) (w : World) (h : Rst w b g d off last err) :
    Calls Try.prog 73 #[.pointer (some ⟨b, 0, none⟩)] w fun e w' => e = .returned (numRes off (dec (d.drop off))) ∧ Drew w w' := by
  have c0 := h.c0
  have c1 := h.c1
  have hsm := h.small
  have hle := h.le
  by_cases he : off = d.length
  · subst he
    go_enter Try.func73, Try.ntmps73
    go_wp2
    go_quiet (fail)
    go_wp2
    refine wp_loop_rounds 1 ?_
    rw [rounds_succ]
    go_wp2
    go_ret3
    refine ⟨?_, nq, rfl⟩
    rw [List.drop_length]; rfl
  · have b1 : (0 : Int) ≤ (off : Int) := by omega
    have b2 : (off : Int) ≤ (d.length : Int) := by omega
    have b3 : ¬ d.length = off := by omega
    go_enter Try.func73, Try.ntmps73
    go_wp2
    go_quiet (fail)
    go_wp2
    go_loop [6, 18] (fun nv iv => ∃ i acc x : Nat, i ≤ 10 ∧ iv = .int .i64 i ∧ nv = .int .u64 x ∧ Hid (dec (d.drop off) = decAt (10 - i) i acc (d.drop (off + i))) ∧ Hid (off + i ≤ d.length ∧ acc < 128 ^ i ∧ x < 18446744073709551616 ∧ (i ≤ 9 → x = acc)))
      (fun _ i => 10 - (intOf i).toNat)
    case atStart => exact ⟨0, 0, 0, by omega, rfl, rfl, hid_of rfl, hid_of ⟨by omega, by decide, by omega, fun _ => rfl⟩⟩
    case round =>
      obtain ⟨i, acc, x, hi, rfl, rfl, hdec, hinv⟩ := hrel
      have hinv1 := hinv.out.1
      by_cases hlt : i < 10
      · by_cases hend : off + i = d.length
        · have hee : ((i : Int) == ((d.length - off : Nat) : Int)) = true := by simp; omega
          go_wp2
          go_ret3
          refine ⟨?_, nq, rfl⟩
          rw [hdec.out, hend, List.drop_length, decAt_nil i acc hlt]; rfl
        · have hee : ((i : Int) == ((d.length - off : Nat) : Int)) = false := by simp; omega
          have hcell := h.byte (j := off + i) (by omega)
          obtain ⟨y, hy⟩ : ∃ y, y = d[off + i]'(by omega) := ⟨_, rfl⟩
          rw [← hy] at hcell
          have hy0 := h.rng y (by rw [hy]; exact List.getElem_mem _)
          have HY := hid_of hy
          clear hy
          by_cases h128 : 128 ≤ y
          · have hz : y.toNat % 128 = (y - 128).toNat := by omega
            go_wp2
            go_round
            case rel =>
              obtain ⟨i1, i2, i3, i4⟩ := hinv.out
              refine ⟨i + 1, acc + (y - 128).toNat * 128 ^ i, x ||| (y.toNat % 128 * 2 ^ (7 * i) % 18446744073709551616), by omega, by go_num, ?_, hid_of ?_, hid_of ⟨by omega, ?_, or_lt _ _ _ i3, fun h9 => ?_⟩⟩
              · rw [or_form x i y hy0.1 hy0.2 i3]
              · rw [hdec.out, drop_at (by omega) HY.out, decAt_cons i acc y _ hlt, if_pos h128]; rfl
              · rw [Nat.pow_succ]
                have : (y - 128).toNat * 128 ^ i ≤ 127 * 128 ^ i := Nat.mul_le_mul_right _ (by omega)
                omega
              · rw [i4 (by omega), hz]
                refine or_val _ _ _ i2 ?_
                have h1 := pow_le9 i (by omega)
                rw [Nat.pow_succ] at h1
                have : (y - 128).toNat * 128 ^ i ≤ 127 * 128 ^ i := Nat.mul_le_mul_right _ (by omega)
                omega
            case measure => simp [intOf]; omega
          · have hdec2 : Hid (dec (d.drop off) = if mayEnd i y then some (acc + y.toNat * 128 ^ i, i + 1) else none) := hid_of (by
              rw [hdec.out, drop_at (by omega) HY.out, decAt_cons i acc y _ hlt, if_neg h128])
            cases hm : mayEnd i y
            · have HM := hid_of hm
              clear hm
              go_wp2_with (go_at_call 86; refine (mayEnd_any i y _ hlt hy0.1 hy0.2).mono ?_; rintro e w' ⟨rfl, rfl⟩; rw [HM.out])
              go_ret3
              refine ⟨?_, nq, rfl⟩
              rw [hdec2.out, HM.out]; rfl
            · have HM := hid_of hm
              clear hm
              have a1 : IntKind.i64.wrap ((off : Int) + (i : Int)) = (off : Int) + (i : Int) := IntWalk.i64_in _ (by omega)
              have a2 : IntKind.i64.wrap ((off : Int) + (i : Int) + 1) = (off : Int) + (i : Int) + 1 := IntWalk.i64_in _ (by omega)
              go_wp2_with (go_at_call 86; refine (mayEnd_any i y _ hlt hy0.1 hy0.2).mono ?_; rintro e w' ⟨rfl, rfl⟩; rw [HM.out])
              go_quiet (fail)
              go_wp2
              go_ret3
              refine ⟨?_, _, (World.drewN_drewN _ _ _)⟩
              obtain ⟨i1, i2, i3, i4⟩ := hinv.out
              rw [hdec2.out, HM.out]
              have hz : y.toNat % 128 = y.toNat := by omega
              have hzl : y.toNat * 128 ^ i < 18446744073709551616 := by
                rcases Nat.lt_or_ge i 9 with h9 | h9
                · have h1 := pow_le9 i (by omega)
                  rw [Nat.pow_succ] at h1
                  have : y.toNat * 128 ^ i ≤ 127 * 128 ^ i := Nat.mul_le_mul_right _ (by omega)
                  omega
                · obtain rfl : i = 9 := by omega
                  have hm := HM.out
                  simp [mayEnd] at hm
                  obtain ⟨_, rfl⟩ := hm
                  decide
              refine ret3_num ?_ (by omega)
              rw [or_form x i y hy0.1 hy0.2 i3, i4 (by omega), hz, or_val _ _ _ i2 hzl]
      · go_wp2
        go_ret3
        refine ⟨?_, nq, rfl⟩
        obtain rfl : i = 10 := by omega
        rw [hdec.out]; rfl

theorem Kept.refl (S : Nat → Prop) (w : World) : Kept S w w := ⟨rfl, rfl, rfl, Nat.le_refl _, fun _ _ _ => rfl⟩
theorem Kept.drewN {S : Nat → Prop} {a b : World} (h : Kept S a b) (m : Nat) : Kept S a (b.drewN m) := ⟨h.os, h.tape, h.output, h.size, h.block⟩
theorem Kept.ofDrewN {S : Nat → Prop} {a b : World} {m : Nat} (h : Kept S (a.drewN m) b) : Kept S a b := ⟨h.os, h.tape, h.output, h.size, h.block⟩
theorem Kept.setCell {S : Nat → Prop} {a b : World} (h : Kept S a b) {p : Addr} (hp : S p.block) (u : Value) : Kept S a (b.setCell p u) :=
  ⟨h.os, h.tape, h.output, by show a.heap.size ≤ (b.heap.modify _ _).size; rw [Array.size_modify]; exact h.size, fun k hk hS => (Below.heap_setCell _ _ _ _ (fun e => hS (by rw [e]; exact hp))).trans (h.block k hk hS)⟩
theorem Kept.mono {S T : Nat → Prop} {a b : World} (h : Kept S a b) (hST : ∀ k, S k → T k) : Kept T a b := ⟨h.os, h.tape, h.output, h.size, fun k hk hT => h.block k hk (fun hs => hT (hST k hs))⟩

theorem Rst.gne {w : World} {b g off last : Nat} {d : List Int} {err : Int} (h : Rst w b g d off last err) : g ≠ b := by
  intro e
  have := h.row
  rw [e, h.blk] at this
  simp at this
theorem Rst.glt {w : World} {b g off last : Nat} {d : List Int} {err : Int} (h : Rst w b g d off last err) : g < w.heap.size := lt_of_block h.row
theorem Rst.blt {w : World} {b g off last : Nat} {d : List Int} {err : Int} (h : Rst w b g d off last err) : b < w.heap.size := lt_of_block h.blk

/-- A Reader whose own block and row are as they were. -/
theorem Rst.same {w w' : World} {b g off last : Nat} {d : List Int} {err : Int} (h : Rst w b g d off last err) (hb : w'.heap[b]? = w.heap[b]?) (hg : w'.heap[g]? = w.heap[g]?) : Rst w' b g d off last err :=
  ⟨hb.trans h.blk, hg.trans h.row, h.rng, h.le, h.small⟩

/-- What two stores into the Reader's block leave. -/
theorem Rst.set2 {w : World} {b g off last : Nat} {d : List Int} {err : Int} (h : Rst w b g d off last err) {j1 j2 : Nat} {u1 u2 : Value} {off' last' : Nat} {err' : Int}
    (he : (([.slice (some ⟨g, 0, none⟩) d.length d.length, .int .i64 off, .int .i64 last, .int .i64 err] : List Value).set j1 u1).set j2 u2 = [.slice (some ⟨g, 0, none⟩) d.length d.length, .int .i64 off', .int .i64 last', .int .i64 err'])
    (hle : off' ≤ d.length) : Rst ((w.setCell ⟨b, j1, none⟩ u1).setCell ⟨b, j2, none⟩ u2) b g d off' last' err' ∧ Kept (fun k => k = b) w ((w.setCell ⟨b, j1, none⟩ u1).setCell ⟨b, j2, none⟩ u2) ∧
      ((w.setCell ⟨b, j1, none⟩ u1).setCell ⟨b, j2, none⟩ u2).heap.size = w.heap.size := by
  have hb := blk_setCell (k := j2) (u := u2) (blk_setCell (k := j1) (u := u1) (g := b) (cur := [.slice (some ⟨g, 0, none⟩) d.length d.length, .int .i64 off, .int .i64 last, .int .i64 err]) h.blk)
  rw [he] at hb
  refine ⟨⟨hb, ?_, h.rng, hle, h.small⟩, (Kept.setCell (p := ⟨b, j1, none⟩) (Kept.refl (fun k => k = b) w) rfl u1).setCell (p := ⟨b, j2, none⟩) rfl u2, ?_⟩
  · rw [Below.heap_setCell _ _ _ _ h.gne, Below.heap_setCell _ _ _ _ h.gne]; exact h.row
  · simp [World.setCell]

/-- The Reader has gone from w to w'. -/
def RTo (w w' : World) (b g : Nat) (d : List Int) (off last : Nat) (err : Int) : Prop :=
  Rst w' b g d off last err ∧ Kept (fun k => k = b) w w' ∧ w'.heap.size = w.heap.size

theorem RTo.ofDrewN {w w' : World} {b g off last m : Nat} {d : List Int} {err : Int} (h : RTo (w.drewN m) w' b g d off last err) : RTo w w' b g d off last err := ⟨h.1, h.2.1.ofDrewN, h.2.2⟩
theorem RTo.drewN {w w' : World} {b g off last m : Nat} {d : List Int} {err : Int} (h : RTo w w' b g d off last err) : RTo w (w'.drewN m) b g d off last err := ⟨h.1.drewN m, h.2.1.drewN m, h.2.2⟩

set_option maxHeartbeats 400000 in
theorem settle_ok (b g off last en : Nat) (d : List Int) (w : World) (h : Rst w b g d off last 0) (hen : en ≤ d.length) :
    Calls Try.prog 74 #[.pointer (some ⟨b, 0, none⟩), .int .i64 en, .bool true] w fun e w' => e = .returned (.bool true) ∧ RTo w w' b g d en off 0 := by
  have c1 := h.c1
  have c2 := h.c2
  have c3 := h.c3
  have f1 := h.free 1
  have f2 := h.free 2
  have R := hid_of (h.set2 (j1 := 2) (j2 := 1) (u1 := .int .i64 off) (u2 := .int .i64 en) (off' := en) (last' := off) (err' := 0) rfl hen)
  go_enter Try.func74, Try.ntmps74
  go_wp2
  go_ret
  exact ⟨rfl, R.out⟩

set_option maxHeartbeats 400000 in
theorem settle_bad (b g off last : Nat) (en : Int) (d : List Int) (w : World) (h : Rst w b g d off last 0) :
    Calls Try.prog 74 #[.pointer (some ⟨b, 0, none⟩), .int .i64 en, .bool false] w fun e w' => e = .returned (.bool false) ∧ RTo w w' b g d off off 2 := by
  have c1 := h.c1
  have c2 := h.c2
  have c3 := h.c3
  have f2 := h.free 2
  have f3 := h.free 3
  have R := hid_of (h.set2 (j1 := 2) (j2 := 3) (u1 := .int .i64 off) (u2 := .int .i64 2) (off' := off) (last' := off) (err' := 2) rfl h.le)
  go_enter Try.func74, Try.ntmps74
  go_wp2
  go_ret
  exact ⟨rfl, R.out⟩

set_option maxHeartbeats 400000 in
theorem settle_dead (b g off last : Nat) (en : Int) (ok : Bool) (d : List Int) (w : World) (h : Rst w b g d off last 2) :
    Calls Try.prog 74 #[.pointer (some ⟨b, 0, none⟩), .int .i64 en, .bool ok] w fun e w' => e = .returned (.bool false) ∧ RTo w w' b g d off last 2 := by
  have c3 := h.c3
  have R := hid_of h
  go_enter Try.func74, Try.ntmps74
  go_wp2
  go_ret
  exact ⟨rfl, R.out, Kept.refl _ _, rfl⟩

/-! What a number that was read says. -/
theorem decAt_bound : ∀ (f i acc : Nat) (l : List Int) (n k : Nat), f + i = 10 → acc < 128 ^ i → (∀ x ∈ l, 0 ≤ x ∧ x ≤ 255) → decAt f i acc l = some (n, k) → i < k ∧ k ≤ i + l.length ∧ k ≤ 10 ∧ n < 18446744073709551616 := by
  intro f
  induction f with
  | zero => intro i acc l n k _ _ _ h; cases h
  | succ f ih =>
    intro i acc l n k hf ha hr h
    cases l with
    | nil => cases h
    | cons y r =>
      have hy := hr y (by simp)
      rw [decAt] at h
      split at h
      · have hl : acc + (y - 128).toNat * 128 ^ i < 128 ^ (i + 1) := by
          rw [Nat.pow_succ]
          have : (y - 128).toNat * 128 ^ i ≤ 127 * 128 ^ i := Nat.mul_le_mul_right _ (by omega)
          omega
        have := ih (i + 1) _ r n k (by omega) hl (fun x hx => hr x (by simp [hx])) h
        simp only [List.length_cons]
        omega
      · split at h
        · rename_i h1 h2
          simp only [Option.some.injEq, Prod.mk.injEq] at h
          obtain ⟨rfl, rfl⟩ := h
          refine ⟨by omega, by simp, by omega, ?_⟩
          rcases Nat.lt_or_ge i 9 with h9 | h9
          · have h3 := pow_le9 i (by omega)
            rw [Nat.pow_succ] at h3
            have : y.toNat * 128 ^ i ≤ 127 * 128 ^ i := Nat.mul_le_mul_right _ (by omega)
            omega
          · obtain rfl : i = 9 := by omega
            simp [mayEnd] at h2
            obtain ⟨_, rfl⟩ := h2
            have : (128 : Nat) ^ 9 = 9223372036854775808 := by decide
            simp
            omega
        · cases h

theorem dec_bound {l : List Int} {n k : Nat} (hr : ∀ x ∈ l, 0 ≤ x ∧ x ≤ 255) (h : dec l = some (n, k)) : 0 < k ∧ k ≤ l.length ∧ k ≤ 10 ∧ n < 18446744073709551616 := by
  have := decAt_bound 10 0 0 l n k (by omega) (by decide) hr h
  omega

theorem Rst.dec_bound {w : World} {b g off last n k : Nat} {d : List Int} {err : Int} (h : Rst w b g d off last err) (hd : dec (d.drop off) = some (n, k)) : 0 < k ∧ off + k ≤ d.length ∧ k ≤ 10 ∧ n < 18446744073709551616 := by
  have := _root_.Go.Proofs.Ytoogcafceghdjaa.Wr.dec_bound (fun x hx => h.rng x (List.mem_of_mem_drop hx)) hd
  have h2 := h.le
  rw [List.length_drop] at this
  omega

theorem number_some (b g off last n k : Nat) (d : List Int) (err : Int) (w : World) (h : Rst w b g d off last err) (hd : dec (d.drop off) = some (n, k)) :
    Calls Try.prog 73 #[.pointer (some ⟨b, 0, none⟩)] w fun e w' => e = .returned (.tuple #[.int .u64 n, .int .i64 ((off + k : Nat) : Int), .bool true]) ∧ Drew w w' :=
  (number_any b g off last d err w h).mono fun e w' ⟨h1, h2⟩ => ⟨by rw [h1, hd]; rfl, h2⟩
theorem number_none (b g off last : Nat) (d : List Int) (err : Int) (w : World) (h : Rst w b g d off last err) (hd : dec (d.drop off) = none) :
    Calls Try.prog 73 #[.pointer (some ⟨b, 0, none⟩)] w fun e w' => e = .returned (.tuple #[.int .u64 0, .int .i64 0, .bool false]) ∧ Drew w w' :=
  (number_any b g off last d err w h).mono fun e w' ⟨h1, h2⟩ => ⟨by rw [h1, hd]; rfl, h2⟩

set_option maxHeartbeats 400000 in
theorem ruint_ok (b g off last n k : Nat) (d : List Int) (w : World) (h : Rst w b g d off last 0) (hd : dec (d.drop off) = some (n, k)) :
    Calls Try.prog 50 #[.pointer (some ⟨b, 0, none⟩)] w fun e w' => e = .returned (.int .u64 n) ∧ RTo w w' b g d (off + k) off 0 := by
  have hb := hid_of (h.dec_bound hd)
  have HD := hid_of hd
  have H := hid_of h
  clear hd h
  go_enter Try.func50, Try.ntmps50
  go_wp2_with (first
    | (go_at_call 73; refine (number_some b g off last n k d 0 w H.out HD.out).mono ?_; rintro e w1 ⟨rfl, m, rfl⟩)
    | (go_at_call 74; refine (settle_ok b g off last (off + k) d _ (H.out.drewN _) hb.out.2.1).mono ?_; rintro e w2 ⟨rfl, h2⟩; have R := hid_of h2.ofDrewN; clear h2))
  go_ret
  exact ⟨rfl, R.out⟩

set_option maxHeartbeats 400000 in
theorem ruint_bad (b g off last : Nat) (d : List Int) (w : World) (h : Rst w b g d off last 0) (hd : dec (d.drop off) = none) :
    Calls Try.prog 50 #[.pointer (some ⟨b, 0, none⟩)] w fun e w' => e = .returned (.int .u64 0) ∧ RTo w w' b g d off off 2 := by
  have HD := hid_of hd
  have H := hid_of h
  clear hd h
  go_enter Try.func50, Try.ntmps50
  go_wp2_with (first
    | (go_at_call 73; refine (number_none b g off last d 0 w H.out HD.out).mono ?_; rintro e w1 ⟨rfl, m, rfl⟩)
    | (go_at_call 74; refine (settle_bad b g off last 0 d _ (H.out.drewN _)).mono ?_; rintro e w2 ⟨rfl, h2⟩; have R := hid_of h2.ofDrewN; clear h2))
  go_ret
  exact ⟨rfl, R.out⟩

set_option maxHeartbeats 400000 in
theorem ruint_dead (b g off last : Nat) (d : List Int) (w : World) (h : Rst w b g d off last 2) :
    Calls Try.prog 50 #[.pointer (some ⟨b, 0, none⟩)] w fun e w' => e = .returned (.int .u64 0) ∧ RTo w w' b g d off last 2 := by
  have H := hid_of h
  clear h
  rcases hd : dec (d.drop off) with _ | ⟨n, k⟩
  all_goals
    have HD := hid_of hd
    clear hd
    go_enter Try.func50, Try.ntmps50
    go_wp2_with (first
      | (go_at_call 73; (first | (refine (number_none b g off last d 2 w H.out HD.out).mono ?_) | (refine (number_some b g off last _ _ d 2 w H.out HD.out).mono ?_)); rintro e w1 ⟨rfl, m, rfl⟩)
      | (go_at_call 74; refine (settle_dead b g off last _ _ d _ (H.out.drewN _)).mono ?_; rintro e w2 ⟨rfl, h2⟩; have R := hid_of h2.ofDrewN; clear h2))
    go_ret
    exact ⟨rfl, R.out⟩

end Go.Proofs.Ytoogcafceghdjaa.Wr
