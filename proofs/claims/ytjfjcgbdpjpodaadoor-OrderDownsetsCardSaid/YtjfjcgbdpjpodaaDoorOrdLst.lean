/- size and list of package order: a set as a list. Bounds on sizes alone. -/
import Derived.Test.YtjfjcgbdpjpodaaDoorOrdDwm
import Derived.Test.YtjfjcgbdpjpodaaDoorOrdLch
import Derived.Laws.Bits128
namespace Go.Proofs.YtjfjcgbdpjpodaaDoor
open Go.RowKit

/-- What the library's count of bits reckons: at most 127 at any rate. -/
def oc1 (x : Int) : Int := IntKind.u64.wrap (bits .and .u64 (x / 2) 6148914691236517205 + bits .and .u64 x 6148914691236517205)
def oc2 (x : Int) : Int := IntKind.u64.wrap (bits .and .u64 (oc1 x / 4) 3689348814741910323 + bits .and .u64 (oc1 x) 3689348814741910323)
def oc3 (x : Int) : Int := bits .and .u64 (IntKind.u64.wrap (oc2 x / 16 + oc2 x)) 1085102592571150095
def oc4 (x : Int) : Int := IntKind.u64.wrap (oc3 x + oc3 x / 256)
def oc5 (x : Int) : Int := IntKind.u64.wrap (oc4 x + oc4 x / 65536)
def oc6 (x : Int) : Int := IntKind.u64.wrap (oc5 x + oc5 x / 4294967296)
def oc (x : Int) : Nat := (wrap64 (oc6 x) % 128).toNat
theorem oc_le (x : Int) : oc x ≤ 127 := by unfold oc; omega
theorem oc_eq (x : Int) : bits .and .i64 (wrap64 (oc6 x)) 127 = (oc x : Int) := by rw [i64_and127]; unfold oc; omega
set_option maxRecDepth 100000 in
theorem ones_any (x : Int) (w : World) : Calls Tryd.prog 78 #[.int .u64 x] w fun e w' => e = .returned (.int .i64 (oc x : Nat)) ∧ w = w' := by
  have HE := hid_of (oc_eq x)
  go_enter Tryd.func78, Tryd.ntmps78
  go_wp2
  go_ret
  exact ⟨by rw [← HE.out]; rfl, rfl⟩
set_option maxRecDepth 100000 in
theorem size_any (x : Int) (w : World) : Calls Tryd.prog 59 #[.int .u64 x] w fun e w' => e = .returned (.int .i64 (oc x : Nat)) ∧ w = w' := by
  go_enter Tryd.func59, Tryd.ntmps59
  go_wp2_with (go_at_call 78; ((with_reducible refine (ones_any x w).mono ?_); (rintro ee w1 ⟨rfl, rfl⟩)))
  go_ret
  exact ⟨rfl, rfl⟩

/-- A list of numbers that grows, in the variable in block lb. -/
structure LS (w W : World) (lb : Nat) (l : List Nat) : Prop where
  bel : Below w.heap.size w W
  lo : w.heap.size ≤ lb
  row : ∃ ao cap, W.heap[lb]? = some (.cells #[.slice ao l.length cap] 36 (0, 0)) ∧ W.ownsRow w.heap.size 3 1 (.slice ao l.length cap) l.length (is (nI l))
theorem own_ne {W : World} {B n : Nat} {v : Value} {xs : List Value} {k lb t : Nat} {cs : Array Value} (ho : W.ownsRow B 3 1 v n xs) (hk : v.ownBlock = some k) (hl : W.heap[lb]? = some (.cells cs t (0, 0))) (ht : t ≠ 3) : k ≠ lb := by
  intro e
  subst e
  rcases ho.2 with ⟨e, _⟩ | ⟨q, cap, cur, e, _, h2, _⟩
  · rw [e] at hk; cases hk
  · rw [e] at hk
    simp only [Value.ownBlock, Option.some.injEq] at hk
    subst hk
    rw [hl] at h2
    simp only [Option.some.injEq, Obj.cells.injEq] at h2
    exact ht h2.2.1
theorem ls_app {w W W6 : World} {lb m cap : Nat} {ao : Option Addr} {xs : List Value} {o : Obj} (HB : Below w.heap.size w W) (H1 : W.heap[lb]? = some (.cells #[.slice ao m cap] 36 (0, 0))) (H2 : W.ownsRow w.heap.size 3 1 (.slice ao m cap) m xs) (hg : (W.alloc o).grownBy W6 (Value.slice ao m cap).ownBlock) :
    W6.heap[lb]? = some (.cells #[.slice ao m cap] 36 (0, 0)) ∧ Below w.heap.size w W6 := by
  have hz : (W.alloc o).heap.size = W.heap.size + 1 := by simp
  have hl := lt_of_block H1
  refine ⟨?_, hg.os.trans HB.os, hg.tape.trans HB.tape, hg.output.trans HB.output, by have := hg.size; have := HB.size; omega, fun k hk => ?_⟩
  · rw [hg.block lb (by omega) (fun he => own_ne H2 he.symm H1 (by decide) rfl)]
    exact ((bel_alloc W _).block lb hl).trans H1
  · have hs := HB.size
    rw [hg.block k (by omega) (fun he => by have := (H2.lt k he.symm).1; omega)]
    exact ((bel_alloc W _).block k (by omega)).trans (HB.block k hk)
set_option maxRecDepth 100000 in
theorem lst1_any (e lb : Nat) (l : List Nat) (w W : World) (h : LS w W lb l) (hl : l.length ≤ 64) :
    Calls Tryd.prog 74 #[.int .i64 e, .pointer (some ⟨lb, 0, none⟩)] W fun x W' => x = .returned (.tuple #[]) ∧ LS w W' lb (l ++ [e]) := by
  obtain ⟨ao, cap, h1, h2⟩ := h.row
  have c1 := blk_cell (cs := [.slice ao l.length cap]) h1 (j := 0) rfl
  have HB := hid_of h.bel
  have HLO := hid_of h.lo
  have H1 := hid_of h1
  have H2 := hid_of h2
  have HLI : Hid ((is (nI l)).length = l.length) := hid_of (by rw [is_length, nI_length])
  obtain ⟨m, hm⟩ : ∃ m, m = l.length := ⟨_, rfl⟩
  rw [← hm] at H1 H2 HLI c1 hl
  have HM := hid_of hm
  clear h h1 h2 hm
  go_enter Tryd.func74, Tryd.ntmps74
  go_wp2_with (at_builtin; ((refine wpList_ing rfl _ _ rfl (v := .slice ao m cap) rfl (l := is (nI l)) (by rw [HLI.out]; exact H2.out) HB.out.size (e : Int) rfl (by rw [HLI.out]; omega) ?_); intro yo yn yc w6 hyn ho6 hg6 _; obtain rfl : yn = m + 1 := (by rw [hyn, HLI.out]); have HO6 := hid_of ho6; have L6 := hid_of (ls_app HB.out H1.out H2.out hg6).1; have K6 := hid_of (ls_app HB.out H1.out H2.out hg6).2; have f6 := blk_free L6.out 0; have c6 := blk_cell (cs := [.slice ao m cap]) L6.out (j := 0) rfl; clear ho6 hg6 hyn))
  first | go_ret | go_end0
  refine ⟨rfl, ⟨K6.out.os, K6.out.tape, K6.out.output, by simpa using K6.out.size, fun k hk => ?_⟩, HLO.out, yo, yc, ?_, ?_⟩
  · rw [Below.heap_setCell _ _ _ _ (by have := HLO.out; show k ≠ lb; omega)]
    exact K6.out.block k hk
  · have := blk_setCell (k := 0) (u := .slice yo (m + 1) yc) (cur := [.slice ao m cap]) L6.out
    rw [show (l ++ [e]).length = m + 1 by rw [HM.out]; simp]
    exact this
  · rw [show (l ++ [e]).length = m + 1 by rw [HM.out]; simp, show nI (l ++ [e]) = nI l ++ [(e : Int)] by simp [nI], is_append]
    exact own_same HO6.out fun k hk => Below.heap_setCell _ _ _ _ (own_ne HO6.out hk L6.out (by decide))
theorem each_lst (q lb : Nat) (w W : World) (h : LS w W lb []) (hq : q < M64) (hT : Tb w) :
    Calls Tryd.prog 54 #[.int .u64 q, .func (.func 74) #[] #[.pointer (some ⟨lb, 0, none⟩)]] W fun x W' => x = .returned (.tuple #[]) ∧ LS w W' lb (els q) := by
  refine each_any 74 #[.pointer (some ⟨lb, 0, none⟩)] (fun _ _ => rfl) (fun l wx => LS w wx lb l) q hq W h ?_ ?_
  · rintro l wx hl
    exact hT.at hl.bel
  · rintro l e wx ⟨r, hr⟩ hl
    have hd : l.length ≤ 64 := by have := els_len q; rw [hr] at this; simp at this; omega
    exact lst1_any e lb l w wx hl hd
theorem ls_start {w w2 : World} {k : Nat} (hb : Below w.heap.size w w2) (ho : w2.ownsRow w.heap.size 3 1 (.slice (some ⟨w.heap.size, 0, none⟩) 0 k) 0 []) :
    LS w (w2.alloc (.cells #[.slice (some ⟨w.heap.size, 0, none⟩) 0 k] 36)) w2.heap.size [] :=
  ⟨hb.trans ((bel_alloc w2 _).mono hb.size), hb.size, _, k, heap_alloc_new w2 _, own_same ho fun j hj => (bel_alloc w2 _).block j (ho.lt j hj).2⟩
set_option maxRecDepth 100000 in
theorem list_any (q : Nat) (w : World) (hq : q < M64) (hT : Tb w) :
    Calls Tryd.prog 51 #[.int .u64 q] w fun x w' => ∃ ao cap, x = .returned (.slice ao (els q).length cap) ∧ w'.ownsRow w.heap.size 3 1 (.slice ao (els q).length cap) (els q).length (is (nI (els q))) ∧ Below w.heap.size w w' := by
  have HQ := hid_of hq
  have HT := hid_of hT
  obtain ⟨i0, hi, hz0, hz1, hz2⟩ := info_parts intsE.info
  have hmf : ∀ (fn : Fn) (first cap : Array Value) (w : World), (Instr.makeFunc fn first cap).run Tryd.prog w = .ok (.func fn first cap) w := fun _ _ _ _ => rfl
  have HK := hid_of (oc_le q)
  have HSZ := hid_of (size_any q w)
  obtain ⟨k, hk⟩ : ∃ k, k = oc q := ⟨_, rfl⟩
  rw [← hk] at HK HSZ
  clear hq hT hk
  go_enter Tryd.func51, Tryd.ntmps51
  go_wp2_with (first
    | (go_at_call 59; ((with_reducible refine (HSZ.out).mono ?_); (rintro ee w1 ⟨rfl, rfl⟩)))
    | (at_make; (refine wpList_make_own _ rfl _ _ 36 rfl w.heap.size 3 i0 (.int .i64 0) 1 Tryd.underlying36 hi hz0 hz1 .i64 .i64 _ k rfl rfl rfl (by rw [hz2]; have := HK.out; omega) (by unfold maxLen; have := HK.out; omega) (Nat.le_refl _) ?_); intro w2 hown hgrow; have HO2 := hid_of hown; have HB2 : Hid (Below w.heap.size w w2) := hid_of ((Below.refl _ _).grown hgrow (Nat.le_refl _) (fun k h => by cases h)); have LS3 := hid_of (ls_start HB2.out HO2.out); clear hown hgrow)
    | (go_at_call 54; ((with_reducible refine (each_lst q w2.heap.size w _ LS3.out HQ.out HT.out).mono ?_); (rintro ee w4 ⟨rfl, h4⟩; have B4 := hid_of h4.bel; have S4 := h4.row; clear h4; obtain ⟨yo, yc, q1, q2⟩ := S4; have Q1 := hid_of q1; have Q2 := hid_of q2; have c4 := blk_cell (cs := [.slice yo (els q).length yc]) q1 (j := 0) rfl; clear q1 q2))))
  go_ret
  exact ⟨yo, yc, rfl, Q2.out, B4.out⟩
end Go.Proofs.YtjfjcgbdpjpodaaDoor
