/- Texts in one: Shelf, ClsLwQ, ClsLwI. -/
import Derived.Test.YtedohggbpmcehaaMgRH
import Derived.Shelf.Strings.Builder1
import Derived.Shelf.Strings.Builder2
import Derived.Shelf.Strings.OnBuilder
import Derived.Shelf.Slices.Reverse
import Derived.Shelf.Slices.Cells
import Derived.Test.YtedohggbpmcehaaProg
/- Contracts of the library, laid at this program by the kit's own tool. -/
namespace Go.Proofs.Ytedohggbpmcehaa
open Go.Shelf
def sh_lays156_ren : Go.Shelf.Ren := ⟨fun | 156 => 88 | 165 => 94 | 166 => 95 | 169 => 96 | 240 => 98 | 241 => 99 | 276 => 100 | 277 => 101 | n => n, fun | 31 => 22 | 9 => 9 | 3 => 3 | 4 => 4 | 0 => 0 | 20 => 20 | 72 => 137 | 76 => 140 | 70 => 134 | 37 => 135 | 75 => 139 | 127 => 143 | 164 => 144 | 5 => 5 | 80 => 142 | n => n, fun | n => n⟩
theorem sh_lays156 : Go.Proofs.Lays.n156 Try.prog sh_lays156_ren := {
  mixed := by kernel_rfl
  f156 := Try.func88.trans (congrArg some (by kernel_rfl))
  f165 := Try.func94.trans (congrArg some (by kernel_rfl))
  f166 := Try.func95.trans (congrArg some (by kernel_rfl))
  f169 := Try.func96.trans (congrArg some (by kernel_rfl))
  f240 := Try.func98.trans (congrArg some (by kernel_rfl))
  f241 := Try.func99.trans (congrArg some (by kernel_rfl))
  f276 := Try.func100.trans (congrArg some (by kernel_rfl))
  f277 := Try.func101.trans (congrArg some (by kernel_rfl))
  t0 := Try.underlying0
  a0 := Try.isAgg0
  z0 := Try.sizeOf0
  v0 := Try.zeroValue0
  t3 := Try.underlying3
  a3 := Try.isAgg3
  z3 := Try.sizeOf3
  v3 := Try.zeroValue3
  t4 := Try.underlying4
  a4 := Try.isAgg4
  z4 := Try.sizeOf4
  v4 := Try.zeroValue4
  t9 := Try.underlying9
  a9 := Try.isAgg9
  z9 := Try.sizeOf9
  v9 := Try.zeroValue9
  t20 := Try.underlying20
  a20 := Try.isAgg20
  z20 := Try.sizeOf20
  v20 := Try.zeroValue20
  t31 := Try.underlying22
  a31 := Try.isAgg22
  z31 := Try.sizeOf22
  v31 := Try.zeroValue22
  t37 := Try.underlying135
  a37 := Try.isAgg135
  z37 := Try.sizeOf135
  v37 := Try.zeroValue135
  t70 := Try.underlying134
  a70 := Try.isAgg134
  z70 := Try.sizeOf134
  v70 := Try.zeroValue134
  t72 := Try.underlying137
  a72 := Try.isAgg137
  z72 := Try.sizeOf137
  v72 := Try.zeroValue137
  t75 := Try.underlying139
  a75 := Try.isAgg139
  z75 := Try.sizeOf139
  v75 := Try.zeroValue139
  t76 := Try.underlying140
  a76 := Try.isAgg140
  z76 := Try.sizeOf140
  v76 := Try.zeroValue140
  t127 := Try.underlying143
  a127 := Try.isAgg143
  z127 := Try.sizeOf143
  v127 := Try.zeroValue143
  t164 := Try.underlying144
  a164 := Try.isAgg144
  z164 := Try.sizeOf144
  v164 := Try.zeroValue144 }
theorem sh_Builder_Extra_156 : Builder.Extra Try.prog sh_lays156_ren := {
  sizeBuilder := by kernel_rfl
  liesBuilder := by kernel_rfl
  t5 := Try.underlying5
  a5 := Try.isAgg5
  z5 := Try.sizeOf5
  v5 := Try.zeroValue5
  infoByte := by kernel_rfl
  cellsByte := by kernel_rfl
  sizeByte := by kernel_rfl
  neB5 := by decide }
open Go.RowKit in
theorem sh_strings_Join_none (a : Option Addr) (c : Nat) (sep : ByteArray) (w : World) :
    Calls Try.prog 88 #[.slice a 0 c, .string sep] w fun e w' => e = .returned (.string ⟨#[]⟩) ∧ w' = w := Any.strings_Join_none sh_lays156 sh_Builder_Extra_156 a c sep w
open Go.RowKit in
theorem sh_strings_Join (bk o c : Nat) (xs : List ByteArray) (sep : ByteArray) (w : World) (hcells : ∀ (j : Nat) x, xs[j]? = some x → w.cell? ⟨bk, o + j, none⟩ = some (.string x)) (hbk : bk < w.heap.size) (hN : xs.length ≤ 140737488355328) (hcap : xs.length ≤ c) (hlen : (Lib.join (xs.map (·.data.toList)) sep.data.toList).length ≤ 140737488355328) :
    Calls Try.prog 88 #[.slice (some ⟨bk, o, none⟩) xs.length c, .string sep] w fun e w' => e = .returned (.string ⟨(Lib.join (xs.map (·.data.toList)) sep.data.toList).toArray⟩) ∧ Below w.heap.size w w' := Any.strings_Join sh_lays156 sh_Builder_Extra_156 bk o c xs sep w hcells hbk hN hcap hlen
end Go.Proofs.Ytedohggbpmcehaa

/- ClosureEquivalent. Bounds on sizes alone. -/
namespace Go.Proofs.Ytedohggbpmcehaa
open Go.RowKit

set_option maxRecDepth 100000 in
set_option maxHeartbeats 1600000 in
theorem eqq_heavy1 (JC : JoinC) (uo : Option Addr) (un uc : Nat) (U : List Str) (ao : Option Addr) (an ac : Nat) (A : List Gr) (bo : Option Addr) (bn bc : Nat) (B : List Gr) (w : World) (hU : Rd w (.slice uo un uc) (ss U)) (hz : ∀ y ∈ U, y.length ≤ 9223372036854775807) (hA : RuR w (.slice ao an ac) A) (hB : RuR w (.slice bo bn bc) B) (hh : hvB U A = true) :
    Calls Try.prog 7 #[.slice uo un uc, .slice ao an ac, .slice bo bn bc] w fun e w' => e = .returned (.bool true) ∧ Below w.heap.size w w' := by
  have AW : Hid (Calls Try.prog 15 #[] w fun e w' => e = .returned (.bool true) ∧ Below w.heap.size w w') := hid_of (awake_any w)
  obtain ⟨va, eva⟩ : ∃ hv, hv = hvB U A := ⟨_, rfl⟩
  obtain ⟨vb, evb⟩ : ∃ hv, hv = hvB U B := ⟨_, rfl⟩
  have HVA : Hid (∀ W, Below w.heap.size w W → Calls Try.prog 16 #[.slice uo un uc, .slice ao an ac] W fun e w' => e = .returned (.bool va) ∧ W = w') := hid_of (fun W hb => by rw [eva]; exact heavy_any uo un uc U ao an ac A W (hU.at hb) (hA.at hb))
  have HVB : Hid (∀ W, Below w.heap.size w W → Calls Try.prog 16 #[.slice uo un uc, .slice bo bn bc] W fun e w' => e = .returned (.bool vb) ∧ W = w') := hid_of (fun W hb => by rw [evb]; exact heavy_any uo un uc U bo bn bc B W (hU.at hb) (hB.at hb))
  rw [hh] at eva
  subst eva
  clear hU hz hA hB hh evb JC
  go_enter Try.func7, Try.ntmps7
  go_wp2_with (first
    | (go_at_call 15; ((with_reducible refine (AW.out).mono ?_); (rintro ee w1 ⟨rfl, q1⟩)); have B1 := hid_of q1; clear q1)
    | (go_at_call 16; ((with_reducible refine (HVA.out w1 B1.out).mono ?_); (rintro ee w' ⟨rfl, rfl⟩)))
    | (go_at_call 16; ((with_reducible refine (HVB.out w1 B1.out).mono ?_); (rintro ee w' ⟨rfl, rfl⟩))))
  go_ret
  exact ⟨rfl, B1.out⟩
set_option maxRecDepth 100000 in
set_option maxHeartbeats 1600000 in
theorem eqq_heavy2 (JC : JoinC) (uo : Option Addr) (un uc : Nat) (U : List Str) (ao : Option Addr) (an ac : Nat) (A : List Gr) (bo : Option Addr) (bn bc : Nat) (B : List Gr) (w : World) (hU : Rd w (.slice uo un uc) (ss U)) (hz : ∀ y ∈ U, y.length ≤ 9223372036854775807) (hA : RuR w (.slice ao an ac) A) (hB : RuR w (.slice bo bn bc) B) (hh : hvB U A = false) (hg : hvB U B = true) :
    Calls Try.prog 7 #[.slice uo un uc, .slice ao an ac, .slice bo bn bc] w fun e w' => e = .returned (.bool true) ∧ Below w.heap.size w w' := by
  have AW : Hid (Calls Try.prog 15 #[] w fun e w' => e = .returned (.bool true) ∧ Below w.heap.size w w') := hid_of (awake_any w)
  obtain ⟨va, eva⟩ : ∃ hv, hv = hvB U A := ⟨_, rfl⟩
  obtain ⟨vb, evb⟩ : ∃ hv, hv = hvB U B := ⟨_, rfl⟩
  have HVA : Hid (∀ W, Below w.heap.size w W → Calls Try.prog 16 #[.slice uo un uc, .slice ao an ac] W fun e w' => e = .returned (.bool va) ∧ W = w') := hid_of (fun W hb => by rw [eva]; exact heavy_any uo un uc U ao an ac A W (hU.at hb) (hA.at hb))
  have HVB : Hid (∀ W, Below w.heap.size w W → Calls Try.prog 16 #[.slice uo un uc, .slice bo bn bc] W fun e w' => e = .returned (.bool vb) ∧ W = w') := hid_of (fun W hb => by rw [evb]; exact heavy_any uo un uc U bo bn bc B W (hU.at hb) (hB.at hb))
  rw [hh] at eva
  rw [hg] at evb
  subst eva evb
  clear hU hz hA hB hh hg JC
  go_enter Try.func7, Try.ntmps7
  go_wp2_with (first
    | (go_at_call 15; ((with_reducible refine (AW.out).mono ?_); (rintro ee w1 ⟨rfl, q1⟩)); have B1 := hid_of q1; clear q1)
    | (go_at_call 16; ((with_reducible refine (HVA.out w1 B1.out).mono ?_); (rintro ee w' ⟨rfl, rfl⟩)))
    | (go_at_call 16; ((with_reducible refine (HVB.out w1 B1.out).mono ?_); (rintro ee w' ⟨rfl, rfl⟩))))
  go_ret
  exact ⟨rfl, B1.out⟩
set_option maxRecDepth 100000 in
set_option maxHeartbeats 1600000 in
theorem eqq_bad1 (JC : JoinC) (uo : Option Addr) (un uc : Nat) (U : List Str) (ao : Option Addr) (an ac : Nat) (A : List Gr) (bo : Option Addr) (bn bc : Nat) (B : List Gr) (w : World) (hU : Rd w (.slice uo un uc) (ss U)) (hz : ∀ y ∈ U, y.length ≤ 9223372036854775807) (hA : RuR w (.slice ao an ac) A) (hB : RuR w (.slice bo bn bc) B) (hh : hvB U A = false) (hg : hvB U B = false) (q : Nat) (hq : chkE U A = q) (hq0 : q ≠ 0) :
    Calls Try.prog 7 #[.slice uo un uc, .slice ao an ac, .slice bo bn bc] w fun e w' => e = .returned (.bool true) ∧ Below w.heap.size w w' := by
  have AW : Hid (Calls Try.prog 15 #[] w fun e w' => e = .returned (.bool true) ∧ Below w.heap.size w w') := hid_of (awake_any w)
  obtain ⟨va, eva⟩ : ∃ hv, hv = hvB U A := ⟨_, rfl⟩
  obtain ⟨vb, evb⟩ : ∃ hv, hv = hvB U B := ⟨_, rfl⟩
  have HVA : Hid (∀ W, Below w.heap.size w W → Calls Try.prog 16 #[.slice uo un uc, .slice ao an ac] W fun e w' => e = .returned (.bool va) ∧ W = w') := hid_of (fun W hb => by rw [eva]; exact heavy_any uo un uc U ao an ac A W (hU.at hb) (hA.at hb))
  have HVB : Hid (∀ W, Below w.heap.size w W → Calls Try.prog 16 #[.slice uo un uc, .slice bo bn bc] W fun e w' => e = .returned (.bool vb) ∧ W = w') := hid_of (fun W hb => by rw [evb]; exact heavy_any uo un uc U bo bn bc B W (hU.at hb) (hB.at hb))
  obtain ⟨e1, e2, e3⟩ := hvB_no hh
  obtain ⟨f1, f2, f3⟩ := hvB_no hg
  have hul := (rds_open hU).1
  have hal := hA.len.1
  have hbl := hB.len.1
  have IA : InU w uo un uc U ao an ac A := ⟨hU, hA, hz, by omega, by omega, fun r hr => by have := e3 r hr; omega⟩
  have IB : InU w uo un uc U bo bn bc B := ⟨hU, hB, hz, by omega, by omega, fun r hr => by have := f3 r hr; omega⟩
  rw [hh] at eva
  rw [hg] at evb
  subst eva evb
  have RKA : Hid (∀ W, Below w.heap.size w W → Calls Try.prog 17 #[.slice uo un uc, .slice ao an ac] W fun e w' => e = .returned (.int .i64 q) ∧ Below w.heap.size w w') := hid_of (fun W hb => by
    have h := rcheck_any uo un uc U ao an ac A W (hU.at hb) hz (hA.at hb)
    rw [hq] at h
    exact h.mono fun e w' ⟨h1, h2⟩ => ⟨h1, hb.trans (h2.mono hb.size)⟩)
  have CE : Hid (∀ W, Below w.heap.size w W → Calls Try.prog 31 #[.slice uo un uc, .slice ao an ac, .slice bo bn bc] W fun e w' => e = .returned (.tuple #[.bool false, .int .i64 (q : Int)]) ∧ Below w.heap.size w w') := hid_of (fun W hb => by
    exact (eqv_err1 uo un uc U ao an ac A bo bn bc B W (IA.at hb) (IB.at hb) q hq hq0).mono fun e w' ⟨h1, h2⟩ => ⟨h1, hb.trans (h2.mono hb.size)⟩)
  have t1 : ((q : Int) != 0) = true := by simp; omega
  have t2 : ((q : Int) == 0) = false := by simp; omega
  clear hU hz hA hB hh hg IA IB e1 e2 e3 f1 f2 f3 hul hal hbl JC hq hq0
  go_enter Try.func7, Try.ntmps7
  go_wp2_with (first
    | (go_at_call 15; ((with_reducible refine (AW.out).mono ?_); (rintro ee w1 ⟨rfl, q1⟩)); have B1 := hid_of q1; clear q1)
    | (go_at_call 16; ((with_reducible refine (HVA.out w1 B1.out).mono ?_); (rintro ee w' ⟨rfl, rfl⟩)))
    | (go_at_call 16; ((with_reducible refine (HVB.out w1 B1.out).mono ?_); (rintro ee w' ⟨rfl, rfl⟩)))
    | (go_at_call 17; ((with_reducible refine (RKA.out w1 B1.out).mono ?_); (rintro ee w2 ⟨rfl, q1⟩)); have B2 := hid_of q1; clear q1)
    | (go_at_call 31; ((with_reducible refine (CE.out w2 B2.out).mono ?_); (rintro ee w3 ⟨rfl, q1⟩)); have B3 := hid_of q1; clear q1))
  go_ret
  exact ⟨rfl, B3.out⟩
set_option maxRecDepth 100000 in
set_option maxHeartbeats 1600000 in
theorem eqq_bad2 (JC : JoinC) (uo : Option Addr) (un uc : Nat) (U : List Str) (ao : Option Addr) (an ac : Nat) (A : List Gr) (bo : Option Addr) (bn bc : Nat) (B : List Gr) (w : World) (hU : Rd w (.slice uo un uc) (ss U)) (hz : ∀ y ∈ U, y.length ≤ 9223372036854775807) (hA : RuR w (.slice ao an ac) A) (hB : RuR w (.slice bo bn bc) B) (hh : hvB U A = false) (hg : hvB U B = false) (h0 : chkE U A = 0) (q : Nat) (hq : chkE U B = q) (hq0 : q ≠ 0) :
    Calls Try.prog 7 #[.slice uo un uc, .slice ao an ac, .slice bo bn bc] w fun e w' => e = .returned (.bool true) ∧ Below w.heap.size w w' := by
  have AW : Hid (Calls Try.prog 15 #[] w fun e w' => e = .returned (.bool true) ∧ Below w.heap.size w w') := hid_of (awake_any w)
  obtain ⟨va, eva⟩ : ∃ hv, hv = hvB U A := ⟨_, rfl⟩
  obtain ⟨vb, evb⟩ : ∃ hv, hv = hvB U B := ⟨_, rfl⟩
  have HVA : Hid (∀ W, Below w.heap.size w W → Calls Try.prog 16 #[.slice uo un uc, .slice ao an ac] W fun e w' => e = .returned (.bool va) ∧ W = w') := hid_of (fun W hb => by rw [eva]; exact heavy_any uo un uc U ao an ac A W (hU.at hb) (hA.at hb))
  have HVB : Hid (∀ W, Below w.heap.size w W → Calls Try.prog 16 #[.slice uo un uc, .slice bo bn bc] W fun e w' => e = .returned (.bool vb) ∧ W = w') := hid_of (fun W hb => by rw [evb]; exact heavy_any uo un uc U bo bn bc B W (hU.at hb) (hB.at hb))
  obtain ⟨e1, e2, e3⟩ := hvB_no hh
  obtain ⟨f1, f2, f3⟩ := hvB_no hg
  have hul := (rds_open hU).1
  have hal := hA.len.1
  have hbl := hB.len.1
  have IA : InU w uo un uc U ao an ac A := ⟨hU, hA, hz, by omega, by omega, fun r hr => by have := e3 r hr; omega⟩
  have IB : InU w uo un uc U bo bn bc B := ⟨hU, hB, hz, by omega, by omega, fun r hr => by have := f3 r hr; omega⟩
  rw [hh] at eva
  rw [hg] at evb
  subst eva evb
  have RKA : Hid (∀ W, Below w.heap.size w W → Calls Try.prog 17 #[.slice uo un uc, .slice ao an ac] W fun e w' => e = .returned (.int .i64 0) ∧ Below w.heap.size w w') := hid_of (fun W hb => by
    have h := rcheck_any uo un uc U ao an ac A W (hU.at hb) hz (hA.at hb)
    rw [h0] at h
    exact h.mono fun e w' ⟨h1, h2⟩ => ⟨h1, hb.trans (h2.mono hb.size)⟩)
  have RKB : Hid (∀ W, Below w.heap.size w W → Calls Try.prog 17 #[.slice uo un uc, .slice bo bn bc] W fun e w' => e = .returned (.int .i64 q) ∧ Below w.heap.size w w') := hid_of (fun W hb => by
    have h := rcheck_any uo un uc U bo bn bc B W (hU.at hb) hz (hB.at hb)
    rw [hq] at h
    exact h.mono fun e w' ⟨h1, h2⟩ => ⟨h1, hb.trans (h2.mono hb.size)⟩)
  have CE : Hid (∀ W, Below w.heap.size w W → Calls Try.prog 31 #[.slice uo un uc, .slice ao an ac, .slice bo bn bc] W fun e w' => e = .returned (.tuple #[.bool false, .int .i64 (q : Int)]) ∧ Below w.heap.size w w') := hid_of (fun W hb => by
    exact (eqv_err2 uo un uc U ao an ac A bo bn bc B W (IA.at hb) (IB.at hb) h0 q hq hq0).mono fun e w' ⟨h1, h2⟩ => ⟨h1, hb.trans (h2.mono hb.size)⟩)
  have t1 : ((q : Int) != 0) = true := by simp; omega
  have t2 : ((q : Int) == 0) = false := by simp; omega
  clear hU hz hA hB hh hg IA IB e1 e2 e3 f1 f2 f3 hul hal hbl JC hq hq0 h0
  go_enter Try.func7, Try.ntmps7
  go_wp2_with (first
    | (go_at_call 15; ((with_reducible refine (AW.out).mono ?_); (rintro ee w1 ⟨rfl, q1⟩)); have B1 := hid_of q1; clear q1)
    | (go_at_call 16; ((with_reducible refine (HVA.out w1 B1.out).mono ?_); (rintro ee w' ⟨rfl, rfl⟩)))
    | (go_at_call 16; ((with_reducible refine (HVB.out w1 B1.out).mono ?_); (rintro ee w' ⟨rfl, rfl⟩)))
    | (go_at_call 17; ((with_reducible refine (RKA.out w1 B1.out).mono ?_); (rintro ee w2 ⟨rfl, q1⟩)); have B2 := hid_of q1; clear q1)
    | (go_at_call 17; ((with_reducible refine (RKB.out w2 B2.out).mono ?_); (rintro ee w3 ⟨rfl, q1⟩)); have B3 := hid_of q1; clear q1)
    | (go_at_call 31; ((with_reducible refine (CE.out w3 B3.out).mono ?_); (rintro ee w4 ⟨rfl, q1⟩)); have B4 := hid_of q1; clear q1))
  go_ret
  exact ⟨rfl, B4.out⟩
set_option maxRecDepth 100000 in
set_option maxHeartbeats 1600000 in
theorem eqq_main (JC : JoinC) (uo : Option Addr) (un uc : Nat) (U : List Str) (ao : Option Addr) (an ac : Nat) (A : List Gr) (bo : Option Addr) (bn bc : Nat) (B : List Gr) (w : World) (hU : Rd w (.slice uo un uc) (ss U)) (hz : ∀ y ∈ U, y.length ≤ 9223372036854775807) (hA : RuR w (.slice ao an ac) A) (hB : RuR w (.slice bo bn bc) B) (hh : hvB U A = false) (hg : hvB U B = false) (h0 : chkE U A = 0) (h1 : chkE U B = 0) :
    Calls Try.prog 7 #[.slice uo un uc, .slice ao an ac, .slice bo bn bc] w fun e w' => e = .returned (.bool true) ∧ Below w.heap.size w w' := by
  have AW : Hid (Calls Try.prog 15 #[] w fun e w' => e = .returned (.bool true) ∧ Below w.heap.size w w') := hid_of (awake_any w)
  obtain ⟨va, eva⟩ : ∃ hv, hv = hvB U A := ⟨_, rfl⟩
  obtain ⟨vb, evb⟩ : ∃ hv, hv = hvB U B := ⟨_, rfl⟩
  have HVA : Hid (∀ W, Below w.heap.size w W → Calls Try.prog 16 #[.slice uo un uc, .slice ao an ac] W fun e w' => e = .returned (.bool va) ∧ W = w') := hid_of (fun W hb => by rw [eva]; exact heavy_any uo un uc U ao an ac A W (hU.at hb) (hA.at hb))
  have HVB : Hid (∀ W, Below w.heap.size w W → Calls Try.prog 16 #[.slice uo un uc, .slice bo bn bc] W fun e w' => e = .returned (.bool vb) ∧ W = w') := hid_of (fun W hb => by rw [evb]; exact heavy_any uo un uc U bo bn bc B W (hU.at hb) (hB.at hb))
  obtain ⟨e1, e2, e3⟩ := hvB_no hh
  obtain ⟨f1, f2, f3⟩ := hvB_no hg
  have hul := (rds_open hU).1
  have hal := hA.len.1
  have hbl := hB.len.1
  have IA : InU w uo un uc U ao an ac A := ⟨hU, hA, hz, by omega, by omega, fun r hr => by have := e3 r hr; omega⟩
  have IB : InU w uo un uc U bo bn bc B := ⟨hU, hB, hz, by omega, by omega, fun r hr => by have := f3 r hr; omega⟩
  rw [hh] at eva
  rw [hg] at evb
  subst eva evb
  have RKA : Hid (∀ W, Below w.heap.size w W → Calls Try.prog 17 #[.slice uo un uc, .slice ao an ac] W fun e w' => e = .returned (.int .i64 0) ∧ Below w.heap.size w w') := hid_of (fun W hb => by
    have h := rcheck_any uo un uc U ao an ac A W (hU.at hb) hz (hA.at hb)
    rw [h0] at h
    exact h.mono fun e w' ⟨h1, h2⟩ => ⟨h1, hb.trans (h2.mono hb.size)⟩)
  have RKB : Hid (∀ W, Below w.heap.size w W → Calls Try.prog 17 #[.slice uo un uc, .slice bo bn bc] W fun e w' => e = .returned (.int .i64 0) ∧ Below w.heap.size w w') := hid_of (fun W hb => by
    have h := rcheck_any uo un uc U bo bn bc B W (hU.at hb) hz (hB.at hb)
    rw [h1] at h
    exact h.mono fun e w' ⟨h1, h2⟩ => ⟨h1, hb.trans (h2.mono hb.size)⟩)
  have la : ∀ r ∈ A, r.1.length ≤ 10000 := fun r hr => by have := e3 r hr; omega
  have lb : ∀ r ∈ B, r.1.length ≤ 10000 := fun r hr => by have := f3 r hr; omega
  obtain ⟨v, hv⟩ : ∃ v, v = eqvB U A B := ⟨_, rfl⟩
  have CE : Hid (∀ W, Below w.heap.size w W → Calls Try.prog 31 #[.slice uo un uc, .slice ao an ac, .slice bo bn bc] W fun e w' => e = .returned (.tuple #[.bool v, .int .i64 0]) ∧ Below w.heap.size w w') := hid_of (fun W hb => by
    rw [hv]
    exact (eqv_good JC uo un uc U ao an ac A bo bn bc B W (IA.at hb) (IB.at hb) la lb h0 h1).mono fun e w' ⟨h1, h2⟩ => ⟨h1, hb.trans (h2.mono hb.size)⟩)
  have RE : Hid (∀ W, Below w.heap.size w W → Calls Try.prog 32 #[.slice uo un uc, .slice ao an ac, .slice bo bn bc] W fun e w' => e = .returned (.bool v) ∧ Below w.heap.size w w') := hid_of (fun W hb => by
    rw [hv]
    exact (reqv_any uo un uc U ao an ac A bo bn bc B W (hU.at hb) (by omega) (hA.at hb) (by omega) (hB.at hb) (by omega) (fun r hr => by have := e3 r hr; omega) (fun r hr => by have := f3 r hr; omega)).mono fun e w' ⟨h1, h2⟩ => ⟨h1, hb.trans (h2.mono hb.size)⟩)
  clear hU hz hA hB hh hg IA IB e1 e2 e3 f1 f2 f3 hul hal hbl JC h0 h1 hv la lb
  cases v
  all_goals
    go_enter Try.func7, Try.ntmps7
    go_wp2_with (first
      | (go_at_call 15; ((with_reducible refine (AW.out).mono ?_); (rintro ee w1 ⟨rfl, q1⟩)); have B1 := hid_of q1; clear q1)
      | (go_at_call 16; ((with_reducible refine (HVA.out w1 B1.out).mono ?_); (rintro ee w' ⟨rfl, rfl⟩)))
      | (go_at_call 16; ((with_reducible refine (HVB.out w1 B1.out).mono ?_); (rintro ee w' ⟨rfl, rfl⟩)))
      | (go_at_call 17; ((with_reducible refine (RKA.out w1 B1.out).mono ?_); (rintro ee w2 ⟨rfl, q1⟩)); have B2 := hid_of q1; clear q1)
      | (go_at_call 17; ((with_reducible refine (RKB.out w2 B2.out).mono ?_); (rintro ee w3 ⟨rfl, q1⟩)); have B3 := hid_of q1; clear q1)
      | (go_at_call 31; ((with_reducible refine (CE.out w3 B3.out).mono ?_); (rintro ee w4 ⟨rfl, q1⟩)); have B4 := hid_of q1; clear q1)
      | (go_at_call 32; ((with_reducible refine (RE.out w4 B4.out).mono ?_); (rintro ee w5 ⟨rfl, q1⟩)); have B5 := hid_of q1; clear q1))
    go_ret
    exact ⟨by first | rfl | simp, B5.out⟩
theorem eqq_law (JC : JoinC) (uo : Option Addr) (un uc : Nat) (U : List Str) (ao : Option Addr) (an ac : Nat) (A : List Gr) (bo : Option Addr) (bn bc : Nat) (B : List Gr) (w : World) (hU : Rd w (.slice uo un uc) (ss U)) (hz : ∀ y ∈ U, y.length ≤ 9223372036854775807) (hA : RuR w (.slice ao an ac) A) (hB : RuR w (.slice bo bn bc) B) :
    Calls Try.prog 7 #[.slice uo un uc, .slice ao an ac, .slice bo bn bc] w fun e w' => e = .returned (.bool true) ∧ Below w.heap.size w w' := by
  cases hh : hvB U A with
  | true => exact eqq_heavy1 JC uo un uc U ao an ac A bo bn bc B w hU hz hA hB hh
  | false =>
    cases hg : hvB U B with
    | true => exact eqq_heavy2 JC uo un uc U ao an ac A bo bn bc B w hU hz hA hB hh hg
    | false =>
      by_cases h0 : chkE U A = 0
      · by_cases h1 : chkE U B = 0
        · exact eqq_main JC uo un uc U ao an ac A bo bn bc B w hU hz hA hB hh hg h0 h1
        · exact eqq_bad2 JC uo un uc U ao an ac A bo bn bc B w hU hz hA hB hh hg h0 _ rfl h1
      · exact eqq_bad1 JC uo un uc U ao an ac A bo bn bc B w hU hz hA hB hh hg _ rfl h0
theorem joinC : JoinC := fun xo n xc l w R h16 hl => by
  obtain ⟨rfl, h1, h2, h3⟩ := rds_open R
  have hjn := jn_len (m := 16) l h16
  rcases h3 with rfl | ⟨g, o, rfl, hg, hc⟩
  · refine (sh_strings_Join_none xo xc ⟨#[44]⟩ w).mono ?_
    rintro e w' ⟨rfl, rfl⟩
    exact ⟨rfl, Below.refl _ _⟩
  · have key := sh_strings_Join g o xc (l.map ba) ⟨#[44]⟩ w (fun j x hx => ?_) hg (by simp; omega) (by simpa using h1) (by
      have e : (l.map ba).map (·.data.toList) = l := by rw [List.map_map]; exact List.map_id l
      rw [e]
      show (jn l).length ≤ _
      omega)
    · have e : (l.map ba).map (·.data.toList) = l := by rw [List.map_map]; exact List.map_id l
      rw [e, List.length_map] at key
      exact key
    · simp only [List.getElem?_map, Option.map_eq_some_iff] at hx
      obtain ⟨y, hy, rfl⟩ := hx
      exact hc j y hy
theorem equivalent_law (uo : Option Addr) (un uc : Nat) (U : List Str) (ao : Option Addr) (an ac : Nat) (A : List Gr) (bo : Option Addr) (bn bc : Nat) (B : List Gr) (w : World) (hU : Rd w (.slice uo un uc) (ss U)) (hz : ∀ y ∈ U, y.length ≤ 9223372036854775807) (hA : RuR w (.slice ao an ac) A) (hB : RuR w (.slice bo bn bc) B) :
    Calls Try.prog 7 #[.slice uo un uc, .slice ao an ac, .slice bo bn bc] w fun e w' => e = .returned (.bool true) ∧ Below w.heap.size w w' := by
  exact eqq_law joinC uo un uc U ao an ac A bo bn bc B w hU hz hA hB
end Go.Proofs.Ytedohggbpmcehaa

/- ClosureIrredundant. Bounds on sizes alone. -/
namespace Go.Proofs.Ytedohggbpmcehaa
open Go.RowKit

/-- A rule that is not entailed. -/
theorem ent_no {uo : Option Addr} {un uc : Nat} {U : List Str} {yo : Option Addr} {yn yc : Nat} {Y : List Gr} {po : Option Addr} {pn pc : Nat} {p : List Str} {x : Str} {W : World} (h : InU W uo un uc U yo yn yc Y) (hp : Rd W (.slice po pn pc) (ss p)) (hpn : pn ≤ 1000000) (h0 : chkE U Y = 0) (h1 : ruE U (p, x) = 0) (hb : entB U Y (p, x) = false) :
    Calls Try.prog 28 #[.slice uo un uc, .slice yo yn yc, .agg #[.slice po pn pc, .string (ba x)]] W fun e w' => e = .returned (.tuple #[.bool false, .int .i64 0]) ∧ Below W.heap.size W w' := by
  refine (ent_good uo un uc U yo yn yc Y po pn pc p x W h hp hpn h0 h1).mono ?_
  rintro e w' ⟨b, rfl, hb2, hb3⟩
  refine ⟨?_, hb3⟩
  cases b with
  | false => rfl
  | true => rw [(entB_iff (r := (p, x)) h0 h1).2 (hb2.1 rfl)] at hb; cases hb
/-- The parts of a slice of strings. -/
theorem rs_parts {w : World} {ao : Option Addr} {n cap j : Nat} {l : List Str} (R : Rd w (.slice ao n cap) (ss l)) (hj : j < n) : ∃ g o A2, ao = some ⟨g, o, none⟩ ∧ n ≤ cap ∧ cap ≤ 9223372036854775807 ∧
    Hid (∀ wx, (Instr.slice 22 (.slice (some ⟨g, o, none⟩) n cap) none (some (.int .i64 (j : Int))) none).run Try.prog wx = .ok (.slice (some ⟨g, o, none⟩) j cap) wx) ∧
    Hid (∀ wx, (Instr.slice 22 (.slice (some ⟨g, o, none⟩) n cap) (some (.int .i64 ((j : Int) + 1))) none none).run Try.prog wx = .ok (.slice A2 (n - (j + 1)) (cap - (j + 1))) wx) ∧
    Hid (∀ W, Below w.heap.size w W → Rd W (.slice (some ⟨g, o, none⟩) j cap) (ss (l.take j))) ∧ Hid (∀ W, Below w.heap.size w W → Rd W (.slice A2 (n - (j + 1)) (cap - (j + 1))) (ss (l.drop (j + 1)))) := by
  obtain ⟨hnl, h2, h3, h4⟩ := rds_open R
  obtain ⟨g, o, rfl, hg, hc⟩ := h4.resolve_left (fun e => by rw [e] at hnl; simp at hnl; omega)
  obtain ⟨A2, F2, G2⟩ := fro_str g o n cap (j + 1) (by omega)
  have ec : ((j + 1 : Nat) : Int) = (j : Int) + 1 := by omega
  rw [ec] at F2
  have L1 : (ss (l.take j)).length = j := by simp [ss]; omega
  have L2 : (ss (l.drop (j + 1))).length = n - (j + 1) := by simp [ss]; omega
  refine ⟨g, o, A2, rfl, h2, h3, hid_of (upto_str g o n cap j (by omega)), hid_of F2, hid_of fun W hW => ⟨_, cap, by rw [L1], by rw [L1]; omega, h3, fun _ => ⟨g, o, rfl, Nat.lt_of_lt_of_le hg hW.size, fun i v hv => ?_⟩⟩, hid_of fun W hW => ⟨A2, cap - (j + 1), by rw [L2], by rw [L2]; omega, by omega, fun h0 => ?_⟩⟩
  · have hi := (List.getElem?_eq_some_iff.1 hv).1
    rw [L1] at hi
    simp only [ss, List.getElem?_map, List.getElem?_take, if_pos hi, Option.map_eq_some_iff] at hv
    obtain ⟨x, hx, rfl⟩ := hv
    exact (hW.cell (p := ⟨g, o + i, none⟩) hg).trans (hc i x hx)
  · rw [L2] at h0
    refine ⟨g, o + (j + 1), G2 (by omega) (by omega), Nat.lt_of_lt_of_le hg hW.size, fun i v hv => ?_⟩
    simp only [ss, List.getElem?_map, List.getElem?_drop, Option.map_eq_some_iff] at hv
    obtain ⟨x, hx, rfl⟩ := hv
    have := hc (j + 1 + i) x hx
    rw [show o + (j + 1) + i = o + (j + 1 + i) by omega]
    exact (hW.cell (p := ⟨g, o + (j + 1 + i), none⟩) hg).trans this
set_option maxRecDepth 100000 in
set_option maxHeartbeats 1600000 in
theorem irr_heavy (uo : Option Addr) (un uc : Nat) (U : List Str) (ro : Option Addr) (rn rc : Nat) (rs : List Gr) (w : World) (hU : Rd w (.slice uo un uc) (ss U)) (hz : ∀ y ∈ U, y.length ≤ 9223372036854775807) (hR : RuR w (.slice ro rn rc) rs) (hh : hvB U rs = true) :
    Calls Try.prog 9 #[.slice uo un uc, .slice ro rn rc] w fun e w' => e = .returned (.bool true) ∧ Below w.heap.size w w' := by
  have AW : Hid (Calls Try.prog 15 #[] w fun e w' => e = .returned (.bool true) ∧ Below w.heap.size w w') := hid_of (awake_any w)
  obtain ⟨hv, ehv⟩ : ∃ hv, hv = hvB U rs := ⟨_, rfl⟩
  have HV : Hid (∀ W, Below w.heap.size w W → Calls Try.prog 16 #[.slice uo un uc, .slice ro rn rc] W fun e w' => e = .returned (.bool hv) ∧ W = w') := hid_of (fun W hb => by rw [ehv]; exact heavy_any uo un uc U ro rn rc rs W (hU.at hb) (hR.at hb))
  rw [hh] at ehv
  subst ehv
  clear hU hz hR hh
  go_enter Try.func9, Try.ntmps9
  go_wp2_with (first
    | (go_at_call 15; ((with_reducible refine (AW.out).mono ?_); (rintro ee w1 ⟨rfl, q1⟩)); have B1 := hid_of q1; clear q1)
    | (go_at_call 16; ((with_reducible refine (HV.out w1 B1.out).mono ?_); (rintro ee w' ⟨rfl, rfl⟩))))
  go_ret
  exact ⟨by first | rfl | simp, B1.out⟩
set_option maxRecDepth 100000 in
set_option maxHeartbeats 1600000 in
theorem irr_bad (uo : Option Addr) (un uc : Nat) (U : List Str) (ro : Option Addr) (rn rc : Nat) (rs : List Gr) (w : World) (hU : Rd w (.slice uo un uc) (ss U)) (hz : ∀ y ∈ U, y.length ≤ 9223372036854775807) (hR : RuR w (.slice ro rn rc) rs) (hh : hvB U rs = false) (q : Nat) (hq : chkE U rs = q) (hq0 : q ≠ 0) :
    Calls Try.prog 9 #[.slice uo un uc, .slice ro rn rc] w fun e w' => e = .returned (.bool true) ∧ Below w.heap.size w w' := by
  have AW : Hid (Calls Try.prog 15 #[] w fun e w' => e = .returned (.bool true) ∧ Below w.heap.size w w') := hid_of (awake_any w)
  obtain ⟨hv, ehv⟩ : ∃ hv, hv = hvB U rs := ⟨_, rfl⟩
  have HV : Hid (∀ W, Below w.heap.size w W → Calls Try.prog 16 #[.slice uo un uc, .slice ro rn rc] W fun e w' => e = .returned (.bool hv) ∧ W = w') := hid_of (fun W hb => by rw [ehv]; exact heavy_any uo un uc U ro rn rc rs W (hU.at hb) (hR.at hb))
  obtain ⟨e1, e2, e3⟩ := hvB_no hh
  have hul := (rds_open hU).1
  have hrl := hR.len.1
  have IU : InU w uo un uc U ro rn rc rs := ⟨hU, hR, hz, by omega, by omega, fun r hr => by have := e3 r hr; omega⟩
  rw [hh] at ehv
  subst ehv
  have CK : Hid (∀ W, Below w.heap.size w W → Calls Try.prog 18 #[.slice uo un uc, .slice ro rn rc] W fun e w' => e = .returned (.int .i64 q) ∧ Below w.heap.size w w') := hid_of (fun W hb => by
    have h := check_any uo un uc U ro rn rc rs W (IU.at hb)
    rw [hq] at h
    exact h.mono fun e w' ⟨h1, h2⟩ => ⟨h1, hb.trans (h2.mono hb.size)⟩)
  have t1 : ((q : Int) != 0) = true := by simp; omega
  have t2 : ((q : Int) == 0) = false := by simp; omega
  clear hU hz hR hh IU e1 e2 e3 hul hrl hq hq0
  go_enter Try.func9, Try.ntmps9
  go_wp2_with (first
    | (go_at_call 15; ((with_reducible refine (AW.out).mono ?_); (rintro ee w1 ⟨rfl, q1⟩)); have B1 := hid_of q1; clear q1)
    | (go_at_call 16; ((with_reducible refine (HV.out w1 B1.out).mono ?_); (rintro ee w' ⟨rfl, rfl⟩)))
    | (go_at_call 18; ((with_reducible refine (CK.out w1 B1.out).mono ?_); (rintro ee w2 ⟨rfl, q1⟩)); have B2 := hid_of q1; clear q1))
  go_ret
  exact ⟨by first | rfl | simp, B2.out⟩
set_option maxRecDepth 100000 in
set_option maxHeartbeats 3200000 in
theorem irr_main (uo : Option Addr) (un uc : Nat) (U : List Str) (ro : Option Addr) (rn rc : Nat) (rs : List Gr) (w : World) (hU : Rd w (.slice uo un uc) (ss U)) (hz : ∀ y ∈ U, y.length ≤ 9223372036854775807) (hR : RuR w (.slice ro rn rc) rs) (hh : hvB U rs = false) (hq : chkE U rs = 0) :
    Calls Try.prog 9 #[.slice uo un uc, .slice ro rn rc] w fun e w' => e = .returned (.bool true) ∧ Below w.heap.size w w' := by
  have AW : Hid (Calls Try.prog 15 #[] w fun e w' => e = .returned (.bool true) ∧ Below w.heap.size w w') := hid_of (awake_any w)
  obtain ⟨hv, ehv⟩ : ∃ hv, hv = hvB U rs := ⟨_, rfl⟩
  have HV : Hid (∀ W, Below w.heap.size w W → Calls Try.prog 16 #[.slice uo un uc, .slice ro rn rc] W fun e w' => e = .returned (.bool hv) ∧ W = w') := hid_of (fun W hb => by rw [ehv]; exact heavy_any uo un uc U ro rn rc rs W (hU.at hb) (hR.at hb))
  obtain ⟨e1, e2, e3⟩ := hvB_no hh
  have hul := (rds_open hU).1
  have hrl := hR.len.1
  have IU : InU w uo un uc U ro rn rc rs := ⟨hU, hR, hz, by omega, by omega, fun r hr => by have := e3 r hr; omega⟩
  rw [hh] at ehv
  subst ehv
  have CK : Hid (∀ W, Below w.heap.size w W → Calls Try.prog 18 #[.slice uo un uc, .slice ro rn rc] W fun e w' => e = .returned (.int .i64 0) ∧ Below w.heap.size w w') := hid_of (fun W hb => by
    have h := check_any uo un uc U ro rn rc rs W (IU.at hb)
    rw [hq] at h
    exact h.mono fun e w' ⟨h1, h2⟩ => ⟨h1, hb.trans (h2.mono hb.size)⟩)
  have hrn : rn ≤ 1000000 := by omega
  have CE : Hid (∀ W, Below w.heap.size w W → Calls Try.prog 33 #[.slice uo un uc, .slice ro rn rc] W fun e w' => ∃ ao m cap, e = .returned (.tuple #[.slice ao m cap, .int .i64 0]) ∧ (m = (redS U rs).length ∧ m ≤ rn) ∧ Hid (RuR w' (.slice ao m cap) (redS U rs)) ∧ Below w.heap.size w w') := hid_of (fun W hb => (red_good uo un uc U ro rn rc rs W (IU.at hb) hq).mono (by
    rintro e w' ⟨ao, m, cap, rfl, h1, h2, h3⟩
    have := red_len U rs
    exact ⟨ao, m, cap, rfl, ⟨h1, by omega⟩, hid_of h2, hb.trans (h3.mono hb.size)⟩))
  have hsh : ∀ r ∈ redS U rs, r.1.length ≤ 41 := red_short e3
  have IG : Hid (∀ W ao m cap, Below w.heap.size w W → RuR W (.slice ao m cap) (redS U rs) → m ≤ 1000000 → InU W uo un uc U ao m cap (redS U rs)) := hid_of (fun W ao m cap hb hr hm => ⟨hU.at hb, hr, hz, by omega, hm, fun r hr => by have := hsh r hr; omega⟩)
  have EQ : Hid (∀ W ao m cap, Below w.heap.size w W → RuR W (.slice ao m cap) (redS U rs) → m ≤ 1000000 → Calls Try.prog 31 #[.slice uo un uc, .slice ro rn rc, .slice ao m cap] W fun e w' => e = .returned (.tuple #[.bool true, .int .i64 0]) ∧ Below w.heap.size w w' ∧ Below W.heap.size W w') := hid_of (fun W ao m cap hb hr hm => by
    refine (eqv_good joinC uo un uc U ro rn rc rs ao m cap (redS U rs) W (IU.at hb) (IG.out W ao m cap hb hr hm) (fun r hr => by have := e3 r hr; omega) (fun r hr => by have := hsh r hr; omega) hq (red_chk hq)).mono ?_
    rintro e w' ⟨rfl, h2⟩
    exact ⟨by rw [red_eqv hq], hb.trans (h2.mono hb.size), h2⟩)
  have E1 : Hid (∀ W yo yn yc i po pn pc q, Below w.heap.size w W → RuR W (.slice yo yn yc) ((redS U rs).eraseIdx i) → yn ≤ 1000000 → (redS U rs)[i]? = some q → Rd W (.slice po pn pc) (ss q.1) → pn ≤ 1000000 → Calls Try.prog 28 #[.slice uo un uc, .slice yo yn yc, .agg #[.slice po pn pc, .string (ba q.2)]] W fun e w' => e = .returned (.tuple #[.bool false, .int .i64 0]) ∧ Below W.heap.size W w') := hid_of (fun W yo yn yc i po pn pc q hb hr hm hqi hp hpn => by
    have hi : InU W uo un uc U yo yn yc ((redS U rs).eraseIdx i) := ⟨hU.at hb, hr, hz, by omega, hm, fun r hr => by have := hsh r (List.mem_of_mem_eraseIdx hr); omega⟩
    exact ent_no (x := q.2) hi hp hpn (chk_sub (red_chk hq) fun r hr => List.mem_of_mem_eraseIdx hr) (red_ru hq q (List.mem_of_getElem? hqi)) (red_irr hq hqi))
  have E2 : Hid (∀ W yo yn yc k po pn pc q, Below w.heap.size w W → RuR W (.slice yo yn yc) (redS U rs) → yn ≤ 1000000 → q ∈ redS U rs → k < q.1.length → Rd W (.slice po pn pc) (ss (q.1.eraseIdx k)) → pn ≤ 1000000 → Calls Try.prog 28 #[.slice uo un uc, .slice yo yn yc, .agg #[.slice po pn pc, .string (ba q.2)]] W fun e w' => e = .returned (.tuple #[.bool false, .int .i64 0]) ∧ Below W.heap.size W w') := hid_of (fun W yo yn yc k po pn pc q hb hr hm hqi hk hp hpn => by
    obtain ⟨g1, g2, g3⟩ := ruE_open (red_ru hq q hqi)
    have hs : List.Sublist (q.1.eraseIdx k) q.1 := List.eraseIdx_sublist _ _
    exact ent_no (x := q.2) (IG.out W yo yn yc hb hr hm) hp hpn (red_chk hq) (ruE_mk (ss_sub g1 hs) (fun x hx => g2 x (hs.subset hx)) g3) (red_min hq hqi hk))
  obtain ⟨G, hG⟩ : ∃ G, G = redS U rs := ⟨_, rfl⟩
  rw [← hG] at CE EQ E1 E2 hsh
  have HSH := hid_of hsh
  have hrn9 : rn ≤ 9223372036854775807 := by omega
  clear hU hz hR hh IU IG e1 e2 e3 hul hrl hq hG hsh
  go_enter Try.func9, Try.ntmps9
  go_wp2_with (first
    | (go_at_call 15; ((with_reducible refine (AW.out).mono ?_); (rintro ee w1 ⟨rfl, q1⟩)); have B1 := hid_of q1; clear q1)
    | (go_at_call 16; ((with_reducible refine (HV.out w1 B1.out).mono ?_); (rintro ee w' ⟨rfl, rfl⟩)))
    | (go_at_call 18; ((with_reducible refine (CK.out w1 B1.out).mono ?_); (rintro ee w2 ⟨rfl, q1⟩)); have B2 := hid_of q1; clear q1)
    | (go_at_call 33; ((with_reducible refine (CE.out w2 B2.out).mono ?_); (rintro ee w3 ⟨ao, m, cap, rfl, ⟨hmG, hm⟩, R3, q1⟩)); have HMG := hid_of hmG; have B3 := hid_of q1; clear q1 hmG; have dm : decide ((rn : Int) < (m : Int)) = false := (by simp; omega); have dm2 : decide (rn < m) = false := (by simp; omega))
    | (go_at_call 31; ((with_reducible refine (EQ.out w3 ao m cap B3.out R3.out (by omega)).mono ?_); (rintro ee w4 ⟨rfl, q1, q2⟩)); have B4 := hid_of q1; have R4 := hid_of (R3.out.at q2); clear q1 q2))
  have hm6 : m ≤ 1000000 := by omega
  have hm9 : m ≤ 9223372036854775807 := by omega
  go_loopw [9, 10, 11, 12, 13, 14, 15, 16] (fun iv v10 v11 v12 v13 v14 v15 v16 wz => ∃ (i : Nat) (x10 x11 x12 x13 x14 x15 x16 : Value), iv = .int .i64 i ∧ v10 = x10 ∧ v11 = x11 ∧ v12 = x12 ∧ v13 = x13 ∧ v14 = x14 ∧ v15 = x15 ∧ v16 = x16 ∧ i ≤ m ∧ Hid (Below w4.heap.size w4 wz)) (fun iv _ _ _ _ _ _ _ _ => m - (intOf iv).toNat)
  case atStart => exact ⟨0, _, _, _, _, _, _, _, rfl, rfl, rfl, rfl, rfl, rfl, rfl, rfl, Nat.zero_le _, hid_of (Below.refl _ _)⟩
  case round =>
    obtain ⟨i, x10, x11, x12, x13, x14, x15, x16, rfl, rfl, rfl, rfl, rfl, rfl, rfl, rfl, him, hbz⟩ := hrel
    by_cases hlt : i < m
    · have hd : decide (i < m) = true := by simp; omega
      have HRU : Hid (RuR wr (.slice ao m cap) G) := hid_of (R4.out.at hbz.out)
      obtain ⟨g, o, l, A2, rfl, hll, hnc, hoc, HU, HF, HT1, HT2, H1C, HRU2⟩ := rr_parts HRU.out hlt
      obtain ⟨g', o', a, c, q, e, hq, c0, c1, hqd⟩ := HRU.out.cel hlt
      cases e
      have HQ := hid_of hq
      have HQD := hid_of hqd
      obtain ⟨bx, hbx⟩ : ∃ bx, bx = ba q.2 := ⟨_, rfl⟩
      obtain ⟨nq, hnq⟩ : ∃ nq, nq = q.1.length := ⟨_, rfl⟩
      have HBX := hid_of hbx
      have HNQ := hid_of hnq
      rw [← hbx] at c1
      rw [← hnq] at c0
      have hnq6 : nq ≤ 41 := by have := HSH.out q (List.mem_of_getElem? hq); omega
      have HBW : Hid (Below w.heap.size w wr) := hid_of (B4.out.trans (hbz.out.mono B4.out.size))
      have HCC : Hid (∀ W, Below wr.heap.size wr W → W.cell? ⟨g, o + i * 2, none⟩ = some (.slice a nq c) ∧ W.cell? ⟨g, o + i * 2 + 1, none⟩ = some (.string bx)) := hid_of (fun W hW => ⟨(hW.cell (p := ⟨g, o + i * 2, none⟩) (World.block_lt_of_cell? _ _ c0)).trans c0, (hW.cell (p := ⟨g, o + i * 2 + 1, none⟩) (World.block_lt_of_cell? _ _ c1)).trans c1⟩)
      have U1 := HU.out
      have F2 := HF.out
      obtain ⟨q2, hq2⟩ : ∃ q2, q2 = m - (i + 1) := ⟨_, rfl⟩
      obtain ⟨c2, hc2⟩ : ∃ c2, c2 = cap - (i + 1) := ⟨_, rfl⟩
      rw [← hq2, ← hc2] at F2 HT2
      have hqx : q2 + i + 1 ≤ m := by omega
      have hqy : m ≤ q2 + i + 1 := by omega
      have HLT : Hid ((l.take i).length = i) := hid_of (by rw [List.length_take]; omega)
      have HLD : Hid ((l.drop (i + 1)).length = q2) := hid_of (by rw [List.length_drop]; omega)
      have b0 : (0 : Int) ≤ (i : Int) := by omega
      have b1 : (i : Int) < (m : Int) := by omega
      have s2 : IntKind.i64.wrap ((i : Int) + 1) = (i : Int) + 1 := IntWalk.i64_in _ (by omega)
      clear hq hqd hq2 hc2 hll HU HF hbx hnq c0 c1
      go_wp2
      go_cut [10] from 58 to 134 (fun rv wx => ∃ ao3 cap3, rv = .slice ao3 (m - 1) cap3 ∧ Hid (Below wr.heap.size wr wx) ∧ Hid (RuR wx (.slice ao3 (m - 1) cap3) (G.eraseIdx i)))
      case first =>
        go_region_law (first
          | (refine step_pr ruE2 (by kernel_rfl) (.tmp 64) (.tmp 67) (by kernel_rfl) (v := .slice (some ⟨wr.heap.size, 0, none⟩) 0 0) (l := []) (by kernel_rfl) (op_drew (op_empty 41 wr)) (vx := .slice (some ⟨g, o, none⟩) i cap) (m := l.take i) (by kernel_rfl) (HT1.out _ (bel_alloc wr _).drew) (prs_one_sub H1C.out fun u hu => List.mem_of_mem_take hu) (by rw [HLT.out]; simp; omega) (by rw [HLT.out]; simp; omega) ?_; intro ao1 n1 cap1 w5 e1 h5 _; have HN1 : Hid (n1 = i) := hid_of (by rw [HLT.out] at e1; simpa using e1); have O1 := hid_of h5; clear e1 h5)
          | (refine step_pr ruE2 (by kernel_rfl) (.tmp 68) (.tmp 72) (by kernel_rfl) (v := .slice ao1 n1 cap1) (l := [] ++ l.take i) (by kernel_rfl) O1.out (vx := .slice A2 q2 c2) (m := l.drop (i + 1)) (by kernel_rfl) (HT2.out _ O1.out.bel) (prs_one_sub H1C.out fun u hu => List.mem_of_mem_drop hu) (by rw [List.nil_append, HLT.out, HLD.out]; omega) (by rw [List.nil_append, HLT.out, HLD.out]; omega) ?_; intro ao3 n3 cap3 w6 e1 h5 _; have HN3 : Hid (n3 = m - 1) := hid_of (by rw [List.nil_append, HLT.out, HLD.out] at e1; omega); have O3 := hid_of h5; clear e1 h5))
        all_goals go_wp2_with fail
        all_goals go_meet
        all_goals exact ⟨ao3, cap3, by rw [HN3.out], hid_of O3.out.bel, hid_of (by
          rw [← HN3.out]
          exact HRU2.out _ _ _ _ O3.out.bel (by have := O3.out.prd; simpa using this))⟩
      case rest =>
        obtain ⟨ao3, cap3, rfl, HB3, HR3⟩ := hcut
        generalize wr = wo at *
        obtain ⟨k0, k1⟩ := HCC.out _ HB3.out
        have HE : Hid (Calls Try.prog 28 #[.slice uo un uc, .slice ao3 (m - 1) cap3, .agg #[.slice a nq c, .string bx]] wc fun e w' => e = .returned (.tuple #[.bool false, .int .i64 0]) ∧ Below wc.heap.size wc w') := hid_of (by
          rw [HBX.out]
          refine E1.out wc ao3 (m - 1) cap3 i a nq c q (HBW.out.trans (HB3.out.mono HBW.out.size)) HR3.out (by omega) HQ.out ?_ (by omega)
          have := HQD.out.at HB3.out
          rw [HNQ.out]; exact this)
        go_wp2_with (go_at_call 28; ((with_reducible refine (HE.out).mono ?_); (rintro ee w7 ⟨rfl, q7⟩)); have B7 : Hid (Below wo.heap.size wo w7) := hid_of (HB3.out.trans (q7.mono HB3.out.size)); clear q7)
        go_loopw [13, 14, 15, 16] (fun kv v14 v15 v16 wz => ∃ (k : Nat) (x14 x15 x16 : Value), kv = .int .i64 k ∧ v14 = x14 ∧ v15 = x15 ∧ v16 = x16 ∧ k ≤ nq ∧ Hid (Below wo.heap.size wo wz)) (fun kv _ _ _ _ => nq - (intOf kv).toNat)
        case atStart => exact ⟨0, _, _, _, rfl, rfl, rfl, rfl, Nat.zero_le _, B7⟩
        case round =>
          obtain ⟨k, x14, x15, x16, rfl, rfl, rfl, rfl, hk, hbk⟩ := hrel
          obtain ⟨m0, m1⟩ := HCC.out _ hbk.out
          by_cases hlt2 : k < nq
          · have hd2 : decide (k < nq) = true := by simp; omega
            obtain ⟨gp, op, A3, rfl, hq1, hq2, HU3, HF3, HS1, HS2⟩ := rs_parts (j := k) (n := nq) (by rw [HNQ.out]; exact HQD.out) hlt2
            have U3 := HU3.out
            have F3 := HF3.out
            obtain ⟨q3, hq3⟩ : ∃ q3, q3 = nq - (k + 1) := ⟨_, rfl⟩
            obtain ⟨c3, hc3⟩ : ∃ c3, c3 = c - (k + 1) := ⟨_, rfl⟩
            rw [← hq3, ← hc3] at F3 HS2
            have hqz : q3 + k + 1 ≤ nq := by omega
            have hqw : nq ≤ q3 + k + 1 := by omega
            have b2 : (0 : Int) ≤ (k : Int) := by omega
            have s3 : IntKind.i64.wrap ((k : Int) + 1) = (k : Int) + 1 := IntWalk.i64_in _ (by omega)
            have HL1 : Hid ((ss (q.1.take k)).length = k) := hid_of (by simp [ss]; have := HNQ.out; omega)
            have HL2 : Hid ((ss (q.1.drop (k + 1))).length = q3) := hid_of (by simp [ss]; have := HNQ.out; omega)
            have HFT : Hid (ss (q.1.take k) ++ ss (q.1.drop (k + 1)) = ss (q.1.eraseIdx k)) := hid_of (by rw [List.eraseIdx_eq_take_drop_succ]; simp [ss])
            have HKK : Hid (k < q.1.length) := hid_of (by have := HNQ.out; omega)
            have HK2 : Hid (∀ X, Below wr.heap.size wr X → X.cell? ⟨g, o + i * 2, none⟩ = some (.slice (some ⟨gp, op, none⟩) nq c) ∧ True) := hid_of (fun X hX => ⟨(HCC.out X (hbk.out.trans (hX.mono hbk.out.size))).1, trivial⟩)
            have K0 : Hid (Below wr.heap.size wr wr.drew) := hid_of (Below.refl _ _).drew
            have KA : Hid (Below wr.heap.size wr (wr.alloc (.cells #[] 9)).drew) := hid_of (bel_alloc _ _).drew
            clear hq3 hc3 HU3 HF3
            go_wp2
            go_region_held3 (fun X => X.cell? ⟨g, o + i * 2, none⟩ = some (.slice (some ⟨gp, op, none⟩) nq c) ∧ True) (exact HK2.out _ (Hid.out (by with_reducible assumption))) (first
              | (refine step_app3 strsE (by rfl) (.tmp 99) (.tmp 106) (by rfl) (v := .slice (some ⟨wr.heap.size, 0, none⟩) 0 0) (l := []) (by kernel_rfl) (ow_empty 9 wr).drew (vx := .slice (some ⟨gp, op, none⟩) k c) (m := ss (q.1.take k)) (by kernel_rfl) (HS1.out _ (hbk.out.trans (KA.out.mono hbk.out.size))) (strs_one _) (by rw [HL1.out]; simp; omega) (by rw [HL1.out]; simp; omega) ?_; intro ao1 n1 cap1 w8 e1 h5 _; have HN1 : Hid (n1 = k) := hid_of (by rw [HL1.out] at e1; simpa using e1); have O1 := hid_of h5; have K1 : Hid (Below wr.heap.size wr w8) := hid_of h5.bel; clear e1 h5)
              | (refine step_app3 strsE (by rfl) (.tmp 107) (.tmp 115) (by rfl) (v := .slice ao1 n1 cap1) (l := [] ++ ss (q.1.take k)) (by kernel_rfl) O1.out (vx := .slice A3 q3 c3) (m := ss (q.1.drop (k + 1))) (by kernel_rfl) (HS2.out _ (hbk.out.trans (K1.out.mono hbk.out.size))) (strs_one _) (by rw [List.nil_append, HL1.out, HL2.out]; omega) (by rw [List.nil_append, HL1.out, HL2.out]; omega) ?_; intro ao6 n6 cap6 w9 e1 h5 _; have HN6 : Hid (n6 + 1 = nq) := hid_of (by rw [List.nil_append, HL1.out, HL2.out] at e1; omega); have O6 := hid_of h5; have K6 : Hid (Below wr.heap.size wr w9) := hid_of h5.bel; clear e1 h5))
            have HB9 : Hid (Below wo.heap.size wo w9) := hid_of (hbk.out.trans (K6.out.mono hbk.out.size))
            obtain ⟨p0, p1⟩ := HCC.out _ HB9.out
            have HE2 : Hid (Calls Try.prog 28 #[.slice uo un uc, .slice (some ⟨g, o, none⟩) m cap, .agg #[.slice ao6 n6 cap6, .string bx]] w9 fun e w' => e = .returned (.tuple #[.bool false, .int .i64 0]) ∧ Below w9.heap.size w9 w') := hid_of (by
              rw [HBX.out]
              refine E2.out w9 (some ⟨g, o, none⟩) m cap k ao6 n6 cap6 q (HBW.out.trans (HB9.out.mono HBW.out.size)) (HRU.out.at HB9.out) hm6 (List.mem_of_getElem? HQ.out) HKK.out ?_ (by have := HN6.out; omega)
              have ho := O6.out
              rw [List.nil_append, HFT.out] at ho
              have hl : (ss (q.1.eraseIdx k)).length = n6 := by
                have h1 := HN6.out
                have h2 := HNQ.out
                have h3 := HKK.out
                simp only [ss, List.length_map, List.length_eraseIdx, if_pos h3]
                omega
              have ho2 := ho.own
              rw [hl] at ho2
              exact rd_of_own1 ho2 hl)
            go_wp2_with (go_at_call 28; ((with_reducible refine (HE2.out).mono ?_); (rintro ee w10 ⟨rfl, q7⟩)); have B10 : Hid (Below wo.heap.size wo w10) := hid_of (HB9.out.trans (q7.mono HB9.out.size)); clear q7)
            go_roundw
            case rel => exact ⟨k + 1, _, _, _, by go_num, rfl, rfl, rfl, by omega, B10⟩
            case measure => simp [intOf]; omega
          · have hd2 : decide (k < nq) = false := by simp; omega
            have HBZ : Hid (Below w4.heap.size w4 wr) := hid_of (hbz.out.trans (hbk.out.mono hbz.out.size))
            go_wp2
            go_roundw
            case rel => exact ⟨i + 1, _, _, _, _, _, _, _, by go_num, rfl, rfl, rfl, rfl, rfl, rfl, rfl, by omega, HBZ⟩
            case measure => simp [intOf]; omega
    · have hd : decide (i < m) = false := by simp; omega
      have HFI : Hid (Below w.heap.size w wr) := hid_of (B4.out.trans (hbz.out.mono B4.out.size))
      go_wp2
      go_ret
      exact ⟨by first | rfl | simp, HFI.out⟩
theorem irredundant_law (uo : Option Addr) (un uc : Nat) (U : List Str) (ro : Option Addr) (rn rc : Nat) (rs : List Gr) (w : World) (hU : Rd w (.slice uo un uc) (ss U)) (hz : ∀ y ∈ U, y.length ≤ 9223372036854775807) (hR : RuR w (.slice ro rn rc) rs) :
    Calls Try.prog 9 #[.slice uo un uc, .slice ro rn rc] w fun e w' => e = .returned (.bool true) ∧ Below w.heap.size w w' := by
  cases hh : hvB U rs with
  | true => exact irr_heavy uo un uc U ro rn rc rs w hU hz hR hh
  | false =>
    by_cases hc : chkE U rs = 0
    · exact irr_main uo un uc U ro rn rc rs w hU hz hR hh hc
    · exact irr_bad uo un uc U ro rn rc rs w hU hz hR hh _ rfl hc
end Go.Proofs.Ytedohggbpmcehaa
