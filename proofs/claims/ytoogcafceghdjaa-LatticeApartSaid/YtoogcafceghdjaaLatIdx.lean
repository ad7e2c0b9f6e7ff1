/- slices.Index, clone of a description without rows, Field. Bounds on sizes alone. -/
import Derived.Test.YtoogcafceghdjaaLatChL
import Derived.Lib.SliceRun
import Derived.Laws.ResultCell
import Derived.Laws.Rows
import Derived.Laws.Tables
namespace Go.Proofs.Ytoogcafceghdjaa
open Go.RowKit

section
variable {P : Program} {fn : Func} {ty : TypeId} {tmps : Array Value} {w : World} {t : TypeId} {cs : Array Value} {fr : Nat × Nat} {d : TypeDesc}
theorem res_ct {p u : Tmp} (h : fn.results = #[.cell p ty, .tmp u]) (g : Nat) (hp : tmps.getD p undef = .pointer (some ⟨g, 0, none⟩)) (hg : w.heap[g]? = some (.cells cs t fr))
    (hu : P.underlying ty = some d) (hd : (match d with | .struct _ | .array _ _ => true | _ => false) = true) (hi : (P.info? ty).map (·.size) = some cs.size) :
    (results fn tmps).run P w = .ok (.tuple #[.agg cs, tmps.getD u undef]) w := by
  rw [results_cell_tmp h, hp]
  simp [asAddr, run_loadVar_row w g t ty cs fr d hg hu hd hi]
end
theorem infoLat : (Try.prog.info? 26).map (·.size) = some 6 := by kernel_rfl

set_option maxRecDepth 100000 in
theorem cloneS_nil (w : World) : Calls Try.prog 67 #[.slice none 0 0] w fun e w' => e = .returned (.slice none 0 0) ∧ w = w' := by
  have q : ∀ (w : World) (a : Option Addr) (n c n' c' : Nat), (binOp .eql 22 (.slice a n c) (.slice none n' c')).run Try.prog w = .ok (.bool a.isNone) w := fun w a n c n' c' => Lib.run_eql_slice_nil w _ _ a n c n' c' Try.underlying22
  go_enter Try.func67, Try.ntmps67
  go_wp2
  go_ret
  exact ⟨rfl, rfl⟩

set_option maxRecDepth 100000 in
theorem cloneL_nil (w : World) : Calls Try.prog 68 #[.slice none 0 0] w fun e w' => e = .returned (.slice none 0 0) ∧ w = w' := by
  have q : ∀ (w : World) (a : Option Addr) (n c n' c' : Nat), (binOp .eql 23 (.slice a n c) (.slice none n' c')).run Try.prog w = .ok (.bool a.isNone) w := fun w a n c n' c' => Lib.run_eql_slice_nil w _ _ a n c n' c' Try.underlying23
  go_enter Try.func68, Try.ntmps68
  go_wp2
  go_ret
  exact ⟨rfl, rfl⟩

set_option maxRecDepth 100000 in
theorem cloneR_nil (w : World) : Calls Try.prog 69 #[.slice none 0 0] w fun e w' => e = .returned (.slice none 0 0) ∧ w = w' := by
  have q : ∀ (w : World) (a : Option Addr) (n c n' c' : Nat), (binOp .eql 24 (.slice a n c) (.slice none n' c')).run Try.prog w = .ok (.bool a.isNone) w := fun w a n c n' c' => Lib.run_eql_slice_nil w _ _ a n c n' c' Try.underlying24
  go_enter Try.func69, Try.ntmps69
  go_wp2
  go_ret
  exact ⟨rfl, rfl⟩

set_option maxRecDepth 100000 in
set_option maxHeartbeats 3200000 in
theorem clone_leaf (k lo hi : Int) (w : World) : Calls Try.prog 40 #[.agg #[.int .i64 k, .int .i64 lo, .int .i64 hi, .slice none 0 0, .slice none 0 0, .slice none 0 0]] w fun e w' => e = .returned (.agg #[.int .i64 k, .int .i64 lo, .int .i64 hi, .slice none 0 0, .slice none 0 0, .slice none 0 0]) ∧ Below w.heap.size w w' := by
  have CS := hid_of cloneS_nil
  have CL := hid_of cloneL_nil
  have CR := hid_of cloneR_nil
  go_enter Try.func40, Try.ntmps40
  have cs0 : (w.alloc (.cells #[.int .i64 k, .int .i64 lo, .int .i64 hi, .slice none 0 0, .slice none 0 0, .slice none 0 0] 26)).cell? ⟨w.heap.size, 3, none⟩ = some (.slice none 0 0) := cell_blk (cs := [.int .i64 k, .int .i64 lo, .int .i64 hi, .slice none 0 0, .slice none 0 0, .slice none 0 0]) (heap_alloc_new w _) rfl
  go_wp2
  go_region_held3 (fun W => W.cell? ⟨w.heap.size, 3, none⟩ = some (.slice none 0 0) ∧ W.cell? ⟨w.heap.size, 4, none⟩ = some (.slice none 0 0) ∧ W.cell? ⟨w.heap.size, 5, none⟩ = some (.slice none 0 0)) (go_keep) (first
    | (go_at_call 67; ((with_reducible refine (CS.out _).mono ?_); (rintro e w2 ⟨rfl, rfl⟩)))
    | (go_at_call 68; ((with_reducible refine (CL.out _).mono ?_); (rintro e w2 ⟨rfl, rfl⟩)))
    | (go_at_call 69; ((with_reducible refine (CR.out _).mono ?_); (rintro e w2 ⟨rfl, rfl⟩))))
  go_wp2
  go_loopw [22] (fun iv wr => iv = .int .i64 0 ∧ wr = ((w.alloc (.cells #[.int .i64 k, .int .i64 lo, .int .i64 hi, .slice none 0 0, .slice none 0 0, .slice none 0 0] 26)).alloc (.cells #[.int .i64 0, .int .i64 0, .int .i64 0, .slice none 0 0, .slice none 0 0, .slice none 0 0] 26)).drew) (fun _ _ => 0)
  case atStart => exact ⟨rfl, rfl⟩
  case round =>
    obtain ⟨rfl, rfl⟩ := hrel
    go_wp2
    go_loopw [37] (fun iv wr => iv = .int .i64 0 ∧ wr = ((w.alloc (.cells #[.int .i64 k, .int .i64 lo, .int .i64 hi, .slice none 0 0, .slice none 0 0, .slice none 0 0] 26)).alloc (.cells #[.int .i64 0, .int .i64 0, .int .i64 0, .slice none 0 0, .slice none 0 0, .slice none 0 0] 26)).drew) (fun _ _ => 0)
    case atStart => exact ⟨rfl, rfl⟩
    case round =>
      obtain ⟨rfl, rfl⟩ := hrel
      go_wp2
      refine bodyPost_ret (results_cell_row rfl _ _ (w.heap.size + 1) 26 #[.int .i64 k, .int .i64 lo, .int .i64 hi, .slice none 0 0, .slice none 0 0, .slice none 0 0] (0, 0) _ rfl (two_new w _ _).2 Try.underlying26 rfl infoLat) rfl ⟨rfl, ?_⟩
      exact (bel_alloc w _).trans ((bel_alloc _ _).drew.mono (by simp))
/-- Where the string s stands first in l, or -1. -/
def At (l : List Str) (s : Str) (r : Int) : Prop := (∃ n : Nat, r = n ∧ l[n]? = some s ∧ ∀ j, j < n → l[j]? ≠ some s) ∨ (r = -1 ∧ s ∉ l)
set_option maxRecDepth 100000 in
set_option maxHeartbeats 3200000 in
theorem index_any (l : List Str) (s : Str) (r : Int) (ao : Option Addr) (n cap : Nat) (w : World) (R : Rd w (.slice ao n cap) (ss l)) (hr : At l s r) :
    Calls Try.prog 39 #[.slice ao n cap, .string (ba s)] w fun e w' => e = .returned (.int .i64 r) ∧ w' = w := by
  obtain ⟨hn, _, hcap, h3⟩ := rds_open R
  have HR := hid_of hr
  have HN := hid_of hn
  have H3 := hid_of h3
  obtain ⟨bs, hbs⟩ : ∃ bs, bs = ba s := ⟨_, rfl⟩
  rw [← hbs]
  have HBS := hid_of hbs
  clear hr hn h3 R hbs
  go_enter Try.func39, Try.ntmps39
  go_wp2
  go_loopw [8] (fun iv wr => ∃ i : Nat, iv = .int .i64 i ∧ i ≤ n ∧ Hid (∀ j, j < i → l[j]? ≠ some s) ∧ w = wr) (fun iv _ => n - (intOf iv).toNat)
  case atStart => exact ⟨0, rfl, Nat.zero_le _, hid_of (fun j h => absurd h (Nat.not_lt_zero j)), rfl⟩
  case round =>
    obtain ⟨i, rfl, hi, HM, rfl⟩ := hrel
    by_cases hlt : i < n
    · have d1 : decide (i < n) = true := decide_eq_true hlt
      have hlt' : (i : Int) < (n : Int) := by omega
      have HLT := hid_of hlt
      have hl : i < l.length := by have := HN.out; omega
      rcases H3.out with h3 | ⟨g, o, rfl, hg, hc⟩
      · exfalso; rw [h3] at hl; simp at hl
      have c1 := hc i _ (List.getElem?_eq_getElem hl)
      obtain ⟨bx, hx⟩ : ∃ bx, bx = ba l[i] := ⟨_, rfl⟩
      rw [← hx] at c1
      by_cases he : s = l[i]
      · have et := eq_t HBS.out hx he
        have RE : Hid ((i : Int) = r) := hid_of (by
          rcases HR.out with ⟨m, h1, h2, h3⟩ | ⟨_, h2⟩
          · rw [h1]
            by_cases e : m = i
            · rw [e]
            · by_cases e2 : m < i
              · exact absurd h2 (HM.out m e2)
              · exact absurd (by rw [List.getElem?_eq_getElem hl, he]) (h3 i (by omega))
          · exact absurd (by rw [he]; exact List.getElem_mem hl) h2)
        clear hlt hc hx he hl H3 hg
        go_wp2
        go_ret
        exact ⟨ret_i RE.out, rfl⟩
      · have et := eq_f HBS.out hx he
        have HE : Hid (∀ j, j < i + 1 → l[j]? ≠ some s) := hid_of (fun j hj => by
          by_cases e : j = i
          · subst e; rw [List.getElem?_eq_getElem hl]; intro h; exact he (Option.some.inj h).symm
          · exact HM.out j (by omega))
        clear hlt hc hx he hl H3 hg
        go_wp2
        go_roundw
        case rel => exact ⟨i + 1, by go_num, HLT.out, HE, by first | trivial | rfl⟩
        case measure => have := HLT.out; simp [intOf]; omega
    · have d1 : decide (i < n) = false := decide_eq_false hlt
      have RE : Hid ((-1 : Int) = r) := hid_of (by
        rcases HR.out with ⟨m, h1, h2, _⟩ | ⟨h1, _⟩
        · exfalso
          have hm := (List.getElem?_eq_some_iff.1 h2).1
          have := HN.out
          exact HM.out m (by omega) h2
        · exact h1.symm)
      go_wp2
      go_ret
      exact ⟨ret_i RE.out, rfl⟩
end Go.Proofs.Ytoogcafceghdjaa
