/- pairs, Closure, Acyclic, orderOf, Reduction of package order. Bounds on sizes alone. -/
import Derived.Test.YtjfjcgbdpjpodaaDoorOrdClo
namespace Go.Proofs.YtjfjcgbdpjpodaaDoor
open Go.RowKit

/-- append of one pair, and what it leaves. -/
theorem wpList_prg {ops : Array Oper} {rest : List Oper} {o : Oper} {a : Act} {Q : Exit → Act → World → Prop} (hgd : o.guard = none) (s x : Operand)
    (ho : o.op = .call { callee := .builtin .append, args := #[s, x], argTypes := #[22, 22] })
    {B : Nat} {w : World} {v : Value} {l : List Tk} (hv : a.eval s = v) (H : w.ownsRow B 44 2 v l.length (ts l)) (hB : B ≤ w.heap.size) (t : Tk) (hx : a.eval x = .slice (some ⟨w.heap.size, 0, none⟩) 1 1) (hl : l.length ≤ 1000000000)
    (h : ∀ (ao : Option Addr) (n cap : Nat) (w' : World), n = l.length + 1 → w'.ownsRow B 44 2 (.slice ao n cap) n (ts (l ++ [t])) → (w.alloc (.cells #[.int .i64 t.1, .int .i64 t.2] 44)).grownBy w' v.ownBlock → wpList Tryd.prog ops Q rest (a.put o.dst (.slice ao n cap)) w') :
    wpList Tryd.prog ops Q (o :: rest) a (w.alloc (.cells #[.int .i64 t.1, .int .i64 t.2] 44)) := by
  obtain ⟨i0, hi, hz0, hz1, hz2⟩ := info_parts Tryd.infoPr
  have HA := H.alloc (.cells #[.int .i64 t.1, .int .i64 t.2] 44)
  have hsrc : Src Tryd.prog 2 22 (.slice (some ⟨w.heap.size, 0, none⟩) 1 1) 1 (ts [t]) (w.alloc (.cells #[.int .i64 t.1, .int .i64 t.2] 44)) := by
    refine Src.ofSlice _ Tryd.underlying22 _ 1 1 (ts [t]) rfl (fun j u hu => ?_) (ts_one _)
    exact World.news_of_block (heap_alloc_new w (.cells #[.int .i64 t.1, .int .i64 t.2] 44)) j u (by simpa [ts] using hu)
  refine wpList_append_src _ hgd s x 22 22 ho B 44 i0 (.agg #[.int .i64 0, .int .i64 0]) 2 16 Tryd.underlying22 hi hz0 hz1 hz2 rfl (by decide) v l.length (ts l) hv HA _ 1 (ts [t]) hx hsrc (by unfold maxLen; omega) (by omega) (by simp; omega) ?_
  intro v2 w2 hown hg _ _
  obtain ⟨ao, cap, rfl⟩ := own_shape hown
  exact h ao _ cap w2 rfl (by rw [ts_append]; exact hown) hg

/-- Between w and w' nothing has turned but block lb, rows of pairs above it, and new blocks. -/
structure KT (lb : Nat) (w w' : World) : Prop where
  os : w'.os = w.os
  tape : w'.tape = w.tape
  output : w'.output = w.output
  size : w.heap.size ≤ w'.heap.size
  lo : ∀ k, k < lb → w'.heap[k]? = w.heap[k]?
  ty : ∀ k, k < w.heap.size → k ≠ lb → (∀ cur, w.heap[k]? ≠ some (.cells cur 44 (0, 0))) → w'.heap[k]? = w.heap[k]?
theorem KT.refl (lb : Nat) (w : World) : KT lb w w := ⟨rfl, rfl, rfl, Nat.le_refl _, fun _ _ => rfl, fun _ _ _ _ => rfl⟩
theorem KT.trans {lb : Nat} {w w1 w2 : World} (h : KT lb w w1) (h2 : KT lb w1 w2) : KT lb w w2 :=
  ⟨h2.os.trans h.os, h2.tape.trans h.tape, h2.output.trans h.output, Nat.le_trans h.size h2.size, fun k hk => (h2.lo k hk).trans (h.lo k hk),
    fun k h1 hl ht => by
      have e := h.ty k h1 hl ht
      exact (h2.ty k (Nat.lt_of_lt_of_le h1 h.size) hl (fun cur => by rw [e]; exact ht cur)).trans e⟩
theorem KT.ofBelow {lb : Nat} {w w' : World} (h : Below w.heap.size w w') (hl : lb ≤ w.heap.size) : KT lb w w' :=
  ⟨h.os, h.tape, h.output, h.size, fun k hk => h.block k (by omega), fun k hk _ _ => h.block k hk⟩
theorem KT.below {lb B : Nat} {w w' : World} (h : KT lb w w') (hB : B ≤ lb) : Below B w w' := ⟨h.os, h.tape, h.output, h.size, fun k hk => h.lo k (by omega)⟩
theorem KT.set {lb : Nat} (w : World) (v : Value) : KT lb w (w.setCell ⟨lb, 0, none⟩ v) :=
  ⟨rfl, rfl, rfl, by simp, fun k hk => Below.heap_setCell _ _ _ _ (by show k ≠ lb; omega), fun k _ hl _ => Below.heap_setCell _ _ _ _ hl⟩
theorem KT.app {lb : Nat} {w w' : World} {v : Value} {n : Nat} {xs : List Value} (o : Obj) (H : w.ownsRow (lb + 1) 44 2 v n xs) (h : (w.alloc o).grownBy w' v.ownBlock) (hl : lb ≤ w.heap.size) : KT lb w w' := by
  have hb : ∀ k, v.ownBlock = some k → lb < k ∧ ∃ cur, w.heap[k]? = some (.cells cur 44 (0, 0)) := by
    intro k hk
    rcases H.2 with ⟨e, _⟩ | ⟨g, cap, cur, e, h1, h2, _⟩
    · rw [e] at hk; cases hk
    · rw [e] at hk
      simp only [Value.ownBlock, Option.some.injEq] at hk
      subst hk
      exact ⟨by omega, cur, h2⟩
  have old : ∀ k, k < w.heap.size → (w.alloc o).heap[k]? = w.heap[k]? := fun k hk => (bel_alloc w o).block k hk
  have hz : (w.alloc o).heap.size = w.heap.size + 1 := by simp
  refine ⟨h.os, h.tape, h.output, by have := h.size; omega, fun k hk => ?_, fun k hk hne ht => ?_⟩
  · rw [h.block k (by omega) (fun e => by have := (hb k e.symm).1; omega)]
    exact old k (by omega)
  · rw [h.block k (by omega) (fun e => by obtain ⟨_, cur, hc⟩ := hb k e.symm; exact ht cur hc)]
    exact old k hk
theorem app_lb {lb : Nat} {w w' : World} {v : Value} {n : Nat} {xs : List Value} (o : Obj) (H : w.ownsRow (lb + 1) 44 2 v n xs) (h : (w.alloc o).grownBy w' v.ownBlock) (hl : lb < w.heap.size) : w'.heap[lb]? = w.heap[lb]? := by
  have hz : (w.alloc o).heap.size = w.heap.size + 1 := by simp
  rw [h.block lb (by omega) (fun e => by have := (H.lt lb e.symm).1; omega)]
  exact (bel_alloc w o).block lb hl
theorem own_at {lb : Nat} {w w' : World} {v : Value} {n : Nat} {xs : List Value} (H : w.ownsRow (lb + 1) 44 2 v n xs) (h : Below w.heap.size w w') : w'.ownsRow (lb + 1) 44 2 v n xs :=
  own_same H fun k hk => h.block k (H.lt k hk).2

/-- What pairs has gathered: the list in the variable in block lb. -/
def PV (W : World) (lb : Nat) (l : List Tk) : Prop := ∃ ao n cap, W.heap[lb]? = some (.cells #[.slice ao n cap] 22 (0, 0)) ∧ n = l.length ∧ W.ownsRow (lb + 1) 44 2 (.slice ao n cap) l.length (ts l)
theorem PV.at {W W' : World} {lb : Nat} {l : List Tk} (h : PV W lb l) (hb : Below W.heap.size W W') : PV W' lb l := by
  obtain ⟨ao, n, cap, h1, h2, h3⟩ := h
  exact ⟨ao, n, cap, (hb.block lb (lt_of_block h1)).trans h1, h2, own_at h3 hb⟩

def addp (q : Bool) (l : List Tk) (t : Tk) : List Tk := if q then l ++ [t] else l
set_option maxRecDepth 100000 in
set_option maxHeartbeats 1600000 in
theorem prs1_any (g : Nat) (lbs : Array Value) (eg : ∀ args w, (callFunc g args).run Tryd.prog w = .ok (.enter g args) w) (kb ab lb a x : Nat) (l : List Tk) (q : Bool) (w : World)
    (hkb : w.cell? ⟨kb, 0, none⟩ = some (.func (.func g) #[] lbs)) (hab : w.cell? ⟨ab, 0, none⟩ = some (.int .i64 a)) (H : PV w lb l) (hl : l.length ≤ 100000)
    (hk : Calls Tryd.prog g (#[.int .i64 a, .int .i64 x] ++ lbs) w fun e w' => e = .returned (.bool q) ∧ Below w.heap.size w w') :
    Calls Tryd.prog 69 #[.int .i64 x, .pointer (some ⟨kb, 0, none⟩), .pointer (some ⟨ab, 0, none⟩), .pointer (some ⟨lb, 0, none⟩)] w fun e w' => e = .returned (.tuple #[]) ∧ PV w' lb (addp q l ((a : Int), (x : Int))) ∧ KT lb w w' := by
  have HK := hid_of hk
  have HP := hid_of H
  have HL := hid_of hl
  have HLB : Hid (lb < w.heap.size) := hid_of (by obtain ⟨_, _, _, h1, _⟩ := H; exact lt_of_block h1)
  have HAB := hid_of hab
  clear hk H hl
  cases q
  · go_enter Tryd.func69, Tryd.ntmps69
    go_wp2_with (go_at_fn g; refine (HK.out).mono ?_; rintro e w2 ⟨rfl, h2⟩; have H2 := hid_of h2; clear h2)
    first | go_ret | go_end0
    exact ⟨rfl, HP.out.at H2.out, KT.ofBelow H2.out (Nat.le_of_lt HLB.out)⟩
  · go_enter Tryd.func69, Tryd.ntmps69
    go_wp2_with (first
      | (go_at_fn g; refine (HK.out).mono ?_; rintro e w2 ⟨rfl, h2⟩; have H2 := hid_of h2; have P2 := hid_of (HP.out.at h2); have c2 := (h2.cell (p := ⟨ab, 0, none⟩) (World.block_lt_of_cell? _ _ HAB.out)).trans HAB.out; clear h2; obtain ⟨ao, n, cap, q1, q2, q3⟩ := P2.out; have Q1 := hid_of q1; have Q3 := hid_of q3; have c3 := blk_cell (cs := [.slice ao n cap]) q1 (j := 0) rfl; have HLB2 : Hid (lb < w2.heap.size) := hid_of (lt_of_block q1); clear q1 q2 q3)
      | (at_builtin; (refine wpList_prg rfl _ _ rfl (v := .slice ao n cap) rfl Q3.out HLB2.out ((a : Int), (x : Int)) rfl (by have := HL.out; omega) ?_); intro xo xn xc w5 hxn h5 h6; have N5 := hid_of hxn; have O5 := hid_of h5; have K5 := hid_of (KT.app _ Q3.out h6 (Nat.le_of_lt HLB2.out)); have L5 : Hid (w5.heap[lb]? = some (.cells #[.slice ao n cap] 22 (0, 0))) := hid_of (by
          rw [app_lb _ Q3.out h6 HLB2.out]; exact Q1.out); have f5 := blk_free L5.out 0; have c5 := blk_cell (cs := [.slice ao n cap]) L5.out (j := 0) rfl; clear h5 h6 hxn))
    first | go_ret | go_end0
    refine ⟨rfl, ⟨xo, xn, xc, ?_, by rw [N5.out]; simp [addp], ?_⟩, ?_⟩
    · have := blk_setCell (k := 0) (u := .slice xo xn xc) (cur := [.slice ao n cap]) L5.out
      exact this
    · have e : (addp true l ((a : Int), (x : Int))).length = xn := by rw [N5.out]; simp [addp]
      rw [e]
      refine own_same O5.out fun k hk => Below.heap_setCell _ _ _ _ ?_
      have := (O5.out.lt k hk).1
      show k ≠ lb
      omega
    · exact (KT.ofBelow H2.out (Nat.le_of_lt HLB.out)).trans (K5.out.trans (KT.set _ _))

/-- The pairs that are kept, row by row. -/
def pr1 (A : Nat → Nat) (kp : Nat → Nat → Bool) (a : Nat) : List Tk := ((els (A a)).filter (kp a)).map fun x : Nat => ((a : Int), (x : Int))
def prs (n : Nat) (A : Nat → Nat) (kp : Nat → Nat → Bool) : List Tk := (List.range n).flatMap (pr1 A kp)
theorem prs_succ (k : Nat) (A : Nat → Nat) (kp : Nat → Nat → Bool) : prs (k + 1) A kp = prs k A kp ++ pr1 A kp k := by
  unfold prs; rw [List.range_succ, List.flatMap_append]; simp
theorem pr1_len (A : Nat → Nat) (kp : Nat → Nat → Bool) (a : Nat) : (pr1 A kp a).length ≤ 64 := by
  unfold pr1
  rw [List.length_map]
  exact Nat.le_trans (List.length_filter_le _ _) (els_len _)
theorem prs_len (A : Nat → Nat) (kp : Nat → Nat → Bool) : ∀ n, (prs n A kp).length ≤ 64 * n
  | 0 => by simp [prs]
  | n + 1 => by rw [prs_succ, List.length_append]; have := prs_len A kp n; have := pr1_len A kp n; omega
def vp (kp : Nat → Nat → Bool) (a : Nat) (l : List Nat) : List Tk := (l.filter (kp a)).map fun x : Nat => ((a : Int), (x : Int))
theorem vp_snoc (kp : Nat → Nat → Bool) (a : Nat) (l : List Nat) (e : Nat) (l0 : List Tk) : l0 ++ vp kp a (l ++ [e]) = addp (kp a e) (l0 ++ vp kp a l) ((a : Int), (e : Int)) := by
  unfold vp addp
  rw [List.filter_append]
  cases h : kp a e <;> simp [h]

set_option maxRecDepth 100000 in
theorem each_prs {w W : World} (g : Nat) (lbs : Array Value) (eg : ∀ args w, (callFunc g args).run Tryd.prog w = .ok (.enter g args) w) {kb lb ab a : Nat} {A : Nat → Nat} {kp : Nat → Nat → Bool} {l : List Tk} (hw : Below w.heap.size w W) (hlw : w.heap.size ≤ lb) (hT : Tb W) (hA : A a < M64)
    (hkb : W.cell? ⟨kb, 0, none⟩ = some (.func (.func g) #[] lbs)) (hkl : kb < lb) (hab : W.heap[ab]? = some (.cells #[.int .i64 a] 3 (0, 0))) (hal : lb < ab) (H : PV W lb l) (hl : l.length ≤ 10000) (_ha : a < 64)
    (hk : ∀ x wx, x < 64 → Below w.heap.size w wx → Calls Tryd.prog g (#[.int .i64 a, .int .i64 x] ++ lbs) wx fun e w' => e = .returned (.bool (kp a x)) ∧ Below wx.heap.size wx w') :
    Calls Tryd.prog 54 #[.int .u64 (A a : Nat), .func (.func 69) #[] #[.pointer (some ⟨kb, 0, none⟩), .pointer (some ⟨ab, 0, none⟩), .pointer (some ⟨lb, 0, none⟩)]] W fun e W' => e = .returned (.tuple #[]) ∧ PV W' lb (l ++ pr1 A kp a) ∧ KT lb W W' := by
  refine (each_any 69 #[.pointer (some ⟨kb, 0, none⟩), .pointer (some ⟨ab, 0, none⟩), .pointer (some ⟨lb, 0, none⟩)] (fun _ _ => rfl) (fun d wx => PV wx lb (l ++ vp kp a d) ∧ KT lb W wx) (A a) hA W ⟨by simpa [vp] using H, KT.refl lb W⟩ ?_ ?_).mono ?_
  · rintro d wx ⟨_, h2⟩
    exact hT.later (h2.below (B := lb) (Nat.le_refl _)) (by omega)
  · rintro d e wx ⟨r, hr⟩ ⟨h1, h2⟩
    have he : e < 64 := els_lt (s := A a) (by rw [hr]; simp)
    have hd : d.length ≤ 64 := by have := els_len (A a); rw [hr] at this; simp at this; omega
    have k1 := (World.cell?_of_block (w := W) (w' := wx) (a := ⟨kb, 0, none⟩) (h2.lo kb hkl)).trans hkb
    have hb2 : wx.heap[ab]? = some (.cells #[.int .i64 a] 3 (0, 0)) := (h2.ty ab (lt_of_block hab) (by omega) (fun cur h => by rw [hab] at h; simp at h)).trans hab
    have k2 := blk_cell (cs := [.int .i64 a]) hb2 (j := 0) rfl
    have hlen : (l ++ vp kp a d).length ≤ 100000 := by
      rw [List.length_append]
      have : (vp kp a d).length ≤ d.length := by unfold vp; rw [List.length_map]; exact List.length_filter_le _ _
      omega
    refine (prs1_any g lbs eg kb ab lb a e _ (kp a e) wx k1 k2 h1 hlen (hk e wx he (hw.trans (h2.below hlw)))).mono ?_
    rintro x w' ⟨rfl, q1, q2⟩
    exact ⟨rfl, by rw [vp_snoc]; exact q1, h2.trans q2⟩
  · rintro x w' ⟨rfl, q1, q2⟩
    exact ⟨rfl, q1, q2⟩
theorem PV.rd {W : World} {lb : Nat} {l : List Tk} (h : PV W lb l) (_hl : l.length ≤ 100000) : ∃ ao n cap, W.cell? ⟨lb, 0, none⟩ = some (.slice ao n cap) ∧ n = l.length ∧ TRd W (.slice ao n cap) l := by
  obtain ⟨ao, n, cap, h1, h2, h3⟩ := h
  exact ⟨ao, n, cap, blk_cell (cs := [.slice ao n cap]) h1 rfl, h2, OT.rd (B := lb + 1) (w0 := W) ⟨lt_of_block h1, Below.refl _ _, h3⟩⟩

set_option maxRecDepth 100000 in
set_option maxHeartbeats 3200000 in
theorem pairs_any (g : Nat) (lbs : Array Value) (eg : ∀ args w, (callFunc g args).run Tryd.prog w = .ok (.enter g args) w) (b n : Nat) (A B : Nat → Nat) (kp : Nat → Nat → Bool) (w : World) (h : RL w b n A B) (hn : n ≤ 64) (hA : Bd n A) (hT : Tb w)
    (hk : ∀ a x wx, a < n → x < 64 → Below w.heap.size w wx → Calls Tryd.prog g (#[.int .i64 a, .int .i64 x] ++ lbs) wx fun e w' => e = .returned (.bool (kp a x)) ∧ Below wx.heap.size wx w') :
    Calls Tryd.prog 38 #[.pointer (some ⟨b, 0, none⟩), .func (.func g) #[] lbs] w fun e w' => ∃ ao m cap, e = .returned (.slice ao m cap) ∧ m = (prs n A kp).length ∧ TRd w' (.slice ao m cap) (prs n A kp) ∧ Below w.heap.size w w' := by
  have H := hid_of h
  have HA := hid_of hA
  have HT := hid_of hT
  have HK := hid_of hk
  have HN := hid_of hn
  obtain ⟨kb, hkb⟩ : ∃ kb, kb = w.heap.size := ⟨_, rfl⟩
  obtain ⟨lb, hlb⟩ : ∃ lb, lb = w.heap.size + 1 := ⟨_, rfl⟩
  have HB := hid_of (And.intro hkb hlb)
  clear h hA hT hk
  have hmf : ∀ (fn : Fn) (first cap : Array Value) (w : World), (Instr.makeFunc fn first cap).run Tryd.prog w = .ok (.func fn first cap) w := fun _ _ _ _ => rfl
  have c0 := (H.out.at ((bel_alloc w (.cells #[.func (.func g) #[] lbs] 56)).trans ((bel_alloc _ (.cells #[.slice none 0 0] 22)).mono (by simp)))).cn
  go_enter Tryd.func38, Tryd.ntmps38
  go_wp2
  have HW0 : Hid (Below w.heap.size w ((w.alloc (.cells #[.func (.func g) #[] lbs] 56)).alloc (.cells #[.slice none 0 0] 22))) := hid_of ((bel_alloc w _).trans ((bel_alloc _ _).mono (by simp)))
  have HP0 : Hid (PV ((w.alloc (.cells #[.func (.func g) #[] lbs] 56)).alloc (.cells #[.slice none 0 0] 22)) lb []) := hid_of ⟨none, 0, 0, by rw [hlb]; exact (by simpa using heap_alloc_new (w.alloc (.cells #[.func (.func g) #[] lbs] 56)) (.cells #[.slice none 0 0] 22)), rfl, World.ownsRow_nil _ _ _ _⟩
  have HK0 : Hid (((w.alloc (.cells #[.func (.func g) #[] lbs] 56)).alloc (.cells #[.slice none 0 0] 22)).cell? ⟨kb, 0, none⟩ = some (.func (.func g) #[] lbs)) := hid_of (by
    rw [hkb]
    exact ((bel_alloc (w.alloc (.cells #[.func (.func g) #[] lbs] 56)) (.cells #[.slice none 0 0] 22)).cell (p := ⟨w.heap.size, 0, none⟩) (by simp)).trans (blk_cell (cs := [.func (.func g) #[] lbs]) (heap_alloc_new w _) rfl))
  have HKL : Hid (w.heap.size ≤ kb ∧ kb < lb) := hid_of (by omega)
  subst hkb hlb
  generalize (w.alloc (.cells #[.func (.func g) #[] lbs] 56)).alloc (.cells #[.slice none 0 0] 22) = w0 at *
  go_loopw [11] (fun iv wr => ∃ k : Nat, iv = .int .i64 k ∧ k ≤ n ∧ Hid (PV wr (w.heap.size + 1) (prs k A kp) ∧ KT (w.heap.size + 1) w0 wr)) (fun iv _ => n - (intOf iv).toNat)
  case atStart => exact ⟨0, rfl, Nat.zero_le _, hid_of ⟨HP0.out, KT.refl _ _⟩⟩
  case round =>
    obtain ⟨k, rfl, hk, hs⟩ := hrel
    have HBW : Hid (Below w.heap.size w wr) := hid_of (HW0.out.trans (hs.out.2.below (by omega)))
    by_cases hlt : k < n
    · have hd : decide (k < n) = true := by simp; omega
      have HLT := hid_of hlt
      have b1 : (k : Int) < 64 := by omega
      have b0 : (0 : Int) ≤ (k : Int) := by omega
      go_wp2
      have HR5 : Hid (RL (wr.alloc (.cells #[.int .i64 k] 3)) b n A B) := hid_of (H.out.at (HBW.out.trans ((bel_alloc wr _).mono HBW.out.size)))
      have HB5 : Hid (Below w.heap.size w (wr.alloc (.cells #[.int .i64 k] 3))) := hid_of (HBW.out.trans ((bel_alloc wr _).mono HBW.out.size))
      have HP5 : Hid (PV (wr.alloc (.cells #[.int .i64 k] 3)) (w.heap.size + 1) (prs k A kp)) := hid_of (hs.out.1.at (bel_alloc _ _))
      have HK5 : Hid (KT (w.heap.size + 1) w0 (wr.alloc (.cells #[.int .i64 k] 3))) := hid_of (hs.out.2.trans (KT.ofBelow (bel_alloc _ _) (Nat.le_of_lt (by obtain ⟨_, _, _, h1, _⟩ := hs.out.1; exact lt_of_block h1))))
      have hp0 := heap_alloc_new wr (.cells #[.int .i64 k] 3)
      have PB0 : w.heap.size + 1 < wr.heap.size := by obtain ⟨_, _, _, h1, _⟩ := hs.out.1; exact lt_of_block h1
      obtain ⟨ab, hab⟩ : ∃ ab, ab = wr.heap.size := ⟨_, rfl⟩
      have PB : Hid (w.heap.size + 1 < ab) := hid_of (by rw [hab]; exact PB0)
      rw [← hab] at hp0
      have P0 := hid_of hp0
      have HKB : Hid ((wr.alloc (.cells #[.int .i64 k] 3)).cell? ⟨w.heap.size, 0, none⟩ = some (.func (.func g) #[] lbs)) := hid_of ((World.cell?_of_block (w := w0) (a := ⟨w.heap.size, 0, none⟩) (HK5.out.lo w.heap.size (by omega))).trans HK0.out)
      clear PB0 hp0
      generalize wr.alloc (.cells #[.int .i64 k] 3) = w5 at *
      rw [← hab]
      have p0 := blk_cell (cs := [.int .i64 k]) P0.out (j := 0) rfl
      have r1 := HR5.out.ca (i := k) (by omega)
      obtain ⟨q, hq⟩ : ∃ q, q = A k := ⟨_, rfl⟩
      rw [← hq] at r1
      have HE : Hid (Calls Tryd.prog 54 #[.int .u64 q, .func (.func 69) #[] #[.pointer (some ⟨w.heap.size, 0, none⟩), .pointer (some ⟨ab, 0, none⟩), .pointer (some ⟨w.heap.size + 1, 0, none⟩)]] w5.drew fun e W' => e = .returned (.tuple #[]) ∧ PV W' (w.heap.size + 1) (prs k A kp ++ pr1 A kp k) ∧ KT (w.heap.size + 1) w5.drew W') := hid_of (by
        rw [hq]
        exact each_prs (w := w) (W := w5.drew) g lbs eg HB5.out.drew (by omega) (HT.out.at HB5.out.drew) (HA.out.m64 HN.out k) HKB.out (by omega) P0.out PB.out HP5.out (by have := prs_len A kp k; have := HN.out; have := HLT.out; omega) (by have := HN.out; have := HLT.out; omega) (fun x wx hx hwx => HK.out k x wx HLT.out hx hwx))
      clear hab hq
      refine wp_region_still_tail 7 (by kernel_rfl) (by kernel_rfl) ?_
      simp only [List.take_succ_cons, List.take_zero, List.drop_succ_cons, List.drop_zero]
      repeat still_step
      refine wpStill_nil ?_
      change wpList _ _ _ _ _ w5.drew
      have K6 : Hid (KT (w.heap.size + 1) w0 w5.drew) := hid_of ⟨HK5.out.os, HK5.out.tape, HK5.out.output, HK5.out.size, HK5.out.lo, HK5.out.ty⟩
      generalize w5.drew = w6 at *
      go_wp2_with (go_at_call 54; ((with_reducible refine (HE.out).mono ?_); (rintro ee w7 ⟨rfl, h7, h8⟩; have C7 := hid_of h7; have C8 := hid_of (K6.out.trans h8); clear h7 h8)))
      go_roundw
      case rel => exact ⟨k + 1, by go_num, by omega, hid_of ⟨by rw [prs_succ]; exact C7.out, C8.out⟩⟩
      case measure => simp [intOf]; omega
    · have hd : decide (k < n) = false := by simp; omega
      obtain rfl : k = n := by omega
      obtain ⟨ao, m, cap, q1, q2, q3⟩ := hs.out.1.rd (by have := prs_len A kp k; omega)
      have Q2 := hid_of q2
      have Q3 := hid_of q3
      clear q2 q3
      go_wp2
      go_ret
      exact ⟨ao, m, cap, rfl, Q2.out, Q3.out, HBW.out⟩
end Go.Proofs.YtjfjcgbdpjpodaaDoor
