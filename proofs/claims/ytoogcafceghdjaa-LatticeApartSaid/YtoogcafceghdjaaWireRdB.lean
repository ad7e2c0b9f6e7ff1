/- More contracts of the Reader of package wire. No condition but bounds on sizes. -/
import Derived.Test.YtoogcafceghdjaaWireRdA
import Derived.Laws.BytesArg
import Derived.Laws.DeepNot64
namespace Go.Proofs.Ytoogcafceghdjaa.Wr
open Go.RowKit

section
variable {P : Program} (w : World)

theorem run_str (src dst e : TypeId) (hs : P.underlying src = some (.slice e)) (he : P.underlying e = some (.int .u8)) (hd : P.underlying dst = some .string) (ao : Option Addr) (l : List Int) (cap : Nat)
    (hpos : 0 < l.length → ∃ ad, ao = some ad ∧ ∀ j v, (bs l)[j]? = some v → w.cell? (ad.add j) = some v) :
    (convert src dst (.slice ao l.length cap)).run P w = .ok (.string (strOfNums l)) w := by
  cases ao with
  | none =>
    obtain rfl : l = [] := by
      cases l with
      | nil => rfl
      | cons x r => obtain ⟨ad, h, _⟩ := hpos (by simp); cases h
    exact run_convert_bytes_nil w src e hs he 0 cap dst hd
  | some ad =>
    have hl : (loadCells ad l.length).run P w = .ok (l.map (Value.int .u8)).toArray w := by
      have := run_loadCells_list (P := P) w ad (bs l) (fun j v hj => by
        have h0 : 0 < l.length := by
          have := (List.getElem?_eq_some_iff.1 hj).1
          simp [bs] at this; omega
        obtain ⟨ad', h1, h2⟩ := hpos h0
        cases h1
        exact h2 j v hj)
      simpa [bs] using this
    rw [run_convert_bytes_string w src dst e _ l.length cap hs he hd, run_bytesToString w _ l.length cap l hl, foldl_push_bytes]
    simp [strOfNums, ByteArray.empty, ByteArray.emptyWithCapacity]
    rfl

theorem wp_str {o : Oper} {a : Act} {K : Act → World → Prop} {Q : Exit → Act → World → Prop} (src dst : TypeId) (x : Operand) (ho : o.op = .convert src dst x) (e : TypeId)
    (hs : P.underlying src = some (.slice e)) (he : P.underlying e = some (.int .u8)) (hd : P.underlying dst = some .string) (ao : Option Addr) (l : List Int) (cap : Nat) (hx : a.eval x = .slice ao l.length cap)
    (hpos : 0 < l.length → ∃ ad, ao = some ad ∧ ∀ j v, (bs l)[j]? = some v → w.cell? (ad.add j) = some v) (h : K (a.put o.dst (.string (strOfNums l))) w) : Oper.wp P o a w K Q := by
  have hr := run_str (P := P) w src dst e hs he hd ao l cap hpos
  unfold Oper.wp execOp
  simp only [ho, hx, Sem.run_bind, hr, Result.andThen_ok, Sem.run_pure]
  exact h

theorem wpList_str {ops : Array Oper} {rest : List Oper} {o : Oper} {a : Act} {Q : Exit → Act → World → Prop} (hgd : o.guard = none) (src dst : TypeId) (x : Operand) (ho : o.op = .convert src dst x) (e : TypeId)
    (hs : P.underlying src = some (.slice e)) (he : P.underlying e = some (.int .u8)) (hd : P.underlying dst = some .string) (ao : Option Addr) (l : List Int) (cap : Nat) (hx : a.eval x = .slice ao l.length cap)
    (hpos : 0 < l.length → ∃ ad, ao = some ad ∧ ∀ j v, (bs l)[j]? = some v → w.cell? (ad.add j) = some v) (h : wpList P ops Q rest (a.put o.dst (.string (strOfNums l))) w) : wpList P ops Q (o :: rest) a w :=
  wpList_plain hgd fun _ hK => wp_str w src dst x ho e hs he hd ao l cap hx hpos (hK _ _ h)
theorem wpList_str_n {ops : Array Oper} {rest : List Oper} {o : Oper} {a : Act} {Q : Exit → Act → World → Prop} (hgd : o.guard = none) (src dst : TypeId) (x : Operand) (ho : o.op = .convert src dst x) (e : TypeId)
    (hs : P.underlying src = some (.slice e)) (he : P.underlying e = some (.int .u8)) (hd : P.underlying dst = some .string) (ao : Option Addr) (l : List Int) (n cap : Nat) (hn : l.length = n) (hx : a.eval x = .slice ao n cap)
    (hpos : 0 < l.length → ∃ ad, ao = some ad ∧ ∀ j v, (bs l)[j]? = some v → w.cell? (ad.add j) = some v) (h : wpList P ops Q rest (a.put o.dst (.string (strOfNums l))) w) : wpList P ops Q (o :: rest) a w :=
  wpList_str w hgd src dst x ho e hs he hd ao l cap (by rw [hn]; exact hx) hpos h
end

theorem ret_i64 {a b : Int} (h : a = b) : Ending.returned (.int .i64 a) = Ending.returned (.int .i64 b) := by rw [h]

/-- Back from zigzag. -/
def unzig (n : Nat) : Int := if n % 2 = 0 then ((n / 2 : Nat) : Int) else -((n / 2 : Nat) : Int) - 1
theorem unzig_zig (n : Int) : unzig (zig n) = n := by
  unfold unzig zig
  by_cases h : 0 ≤ n
  · rw [if_pos h, if_pos (by omega)]; omega
  · rw [if_neg h, if_neg (by omega)]; omega

set_option maxHeartbeats 400000 in
theorem rint_ok (b g off last n k : Nat) (d : List Int) (w : World) (h : Rst w b g d off last 0) (hd : dec (d.drop off) = some (n, k)) :
    Calls Try.prog 52 #[.pointer (some ⟨b, 0, none⟩)] w fun e w' => e = .returned (.int .i64 (unzig n)) ∧ RTo w w' b g d (off + k) off 0 := by
  have hb := h.dec_bound hd
  have hb4 := hb.2.2.2
  have HC := hid_of (ruint_ok b g off last n k d w h hd)
  have e1 := u64_and_nat n 1 hb4 (by omega)
  rw [nat_mask1, show ((1 : Nat) : Int) = 1 from rfl] at e1
  clear hb hd h
  have e2 : bits .xor .i64 (-1) ((n : Int) / 2) = -1 - ((n : Int) / 2) := by
    have := i64_not (n / 2) (by omega)
    rw [show ((n / 2 : Nat) : Int) = (n : Int) / 2 by omega] at this
    exact this
  by_cases h2 : n % 2 = 0
  · go_enter Try.func52, Try.ntmps52
    go_wp2_with (go_at_call 50; refine HC.out.mono ?_; rintro e w1 ⟨rfl, h1⟩; have R := hid_of h1; clear h1)
    go_ret
    exact ⟨ret_i64 (by unfold unzig; rw [if_pos h2]; omega), R.out⟩
  · go_enter Try.func52, Try.ntmps52
    go_wp2_with (go_at_call 50; refine HC.out.mono ?_; rintro e w1 ⟨rfl, h1⟩; have R := hid_of h1; clear h1)
    go_ret
    exact ⟨ret_i64 (by unfold unzig; rw [if_neg h2]; omega), R.out⟩

set_option maxHeartbeats 400000 in
theorem rint_zero (b g off off' last last' : Nat) (d : List Int) (w : World)
    (HC : Hid (Calls Try.prog 50 #[.pointer (some ⟨b, 0, none⟩)] w fun e w' => e = .returned (.int .u64 0) ∧ RTo w w' b g d off' last' 2)) :
    Calls Try.prog 52 #[.pointer (some ⟨b, 0, none⟩)] w fun e w' => e = .returned (.int .i64 0) ∧ RTo w w' b g d off' last' 2 := by
  have e1 : bits .and .u64 0 1 = 0 := by decide
  go_enter Try.func52, Try.ntmps52
  go_wp2_with (go_at_call 50; refine HC.out.mono ?_; rintro e w1 ⟨rfl, h1⟩; have R := hid_of h1; clear h1)
  go_ret
  exact ⟨rfl, R.out⟩
theorem rint_bad (b g off last : Nat) (d : List Int) (w : World) (h : Rst w b g d off last 0) (hd : dec (d.drop off) = none) :
    Calls Try.prog 52 #[.pointer (some ⟨b, 0, none⟩)] w fun e w' => e = .returned (.int .i64 0) ∧ RTo w w' b g d off off 2 :=
  rint_zero b g off off last off d w (hid_of (ruint_bad b g off last d w h hd))
theorem rint_dead (b g off last : Nat) (d : List Int) (w : World) (h : Rst w b g d off last 2) :
    Calls Try.prog 52 #[.pointer (some ⟨b, 0, none⟩)] w fun e w' => e = .returned (.int .i64 0) ∧ RTo w w' b g d off last 2 :=
  rint_zero b g off off last last d w (hid_of (ruint_dead b g off last d w h))

/-- A byte string: how many bytes its length takes, and its length. -/
def decRun (l : List Int) : Option (Nat × Nat) :=
  match dec l with
  | some (n, k) => if n ≤ l.length - k then some (k, n) else none
  | none => none

theorem decRun_some {l : List Int} {k n : Nat} (h : decRun l = some (k, n)) : dec l = some (n, k) ∧ n ≤ l.length - k := by
  unfold decRun at h
  split at h
  · split at h
    · rename_i n' k' he hn
      simp only [Option.some.injEq, Prod.mk.injEq] at h
      obtain ⟨rfl, rfl⟩ := h
      exact ⟨he, hn⟩
    · cases h
  · cases h

set_option maxHeartbeats 400000 in
theorem run_some (b g off last k n : Nat) (d : List Int) (err : Int) (w : World) (h : Rst w b g d off last err) (hd : decRun (d.drop off) = some (k, n)) :
    Calls Try.prog 76 #[.pointer (some ⟨b, 0, none⟩)] w fun e w' => e = .returned (.tuple #[.int .i64 ((off + k : Nat) : Int), .int .i64 ((off + k + n : Nat) : Int), .bool true]) ∧ Drew w w' := by
  obtain ⟨hd1, hd2⟩ := decRun_some hd
  have hb := h.dec_bound hd1
  rw [List.length_drop] at hd2
  have hsm := h.small
  have c0 := h.c0
  have HC := hid_of (number_some b g off last n k d err w h hd1)
  have hdd : decide ((d.length : Int) - ((off + k : Nat) : Int) < (n : Int)) = false := by simp; omega
  obtain ⟨hb0, hb1, hb2, hb3⟩ := hb
  clear hd hd1 h
  go_enter Try.func76, Try.ntmps76
  go_wp2_with (go_at_call 73; refine HC.out.mono ?_; rintro e w1 ⟨rfl, m, rfl⟩)
  go_ret3
  exact ⟨by simp, m, rfl⟩

set_option maxHeartbeats 400000 in
theorem run_none (b g off last : Nat) (d : List Int) (err : Int) (w : World) (h : Rst w b g d off last err) (hd : decRun (d.drop off) = none) :
    Calls Try.prog 76 #[.pointer (some ⟨b, 0, none⟩)] w fun e w' => e = .returned (.tuple #[.int .i64 0, .int .i64 0, .bool false]) ∧ Drew w w' := by
  have hsm := h.small
  have c0 := h.c0
  unfold decRun at hd
  rcases hq : dec (d.drop off) with _ | ⟨n, k⟩
  · have HC := hid_of (number_none b g off last d err w h hq)
    clear hd hq h
    go_enter Try.func76, Try.ntmps76
    go_wp2_with (go_at_call 73; refine HC.out.mono ?_; rintro e w1 ⟨rfl, m, rfl⟩)
    go_ret3
    exact ⟨rfl, m, rfl⟩
  · have HC := hid_of (number_some b g off last n k d err w h hq)
    have hb := h.dec_bound hq
    rw [hq] at hd
    simp only at hd
    split at hd
    · cases hd
    · rename_i hd2
      rw [List.length_drop] at hd2
      have hdd : decide ((d.length : Int) - ((off + k : Nat) : Int) < (n : Int)) = true := by simp; omega
      obtain ⟨hb0, hb1, hb2, hb3⟩ := hb
      clear hd hq h
      go_enter Try.func76, Try.ntmps76
      go_wp2_with (go_at_call 73; refine HC.out.mono ?_; rintro e w1 ⟨rfl, m, rfl⟩)
      go_ret3
      exact ⟨rfl, m, rfl⟩

end Go.Proofs.Ytoogcafceghdjaa.Wr
