/- LongestChain of package order. Bounds on sizes alone. -/
import Derived.Test.YtjfjcgbdpjpodaaDoorOrdLvs
namespace Go.Proofs.YtjfjcgbdpjpodaaDoor
open Go.RowKit

/-- The chain, step by step: what is chosen, and what may follow. -/
def chn (n c : Nat) (A D : Nat → Nat) : Nat → List Nat × Nat
  | 0 => ([], allS n)
  | k + 1 => let s := chn n c A D k; let e := low (fil (fun a => D a == c - 1 - k) s.2); (s.1 ++ [e], A e)
theorem chn_len (n c : Nat) (A D : Nat → Nat) : ∀ k, (chn n c A D k).1.length = k
  | 0 => rfl
  | k + 1 => by simp [chn, chn_len n c A D k]
theorem chn_succ (n c : Nat) (A D : Nat → Nat) (k : Nat) : chn n c A D (k + 1) = ((chn n c A D k).1 ++ [low (fil (fun a => D a == c - 1 - k) (chn n c A D k).2)], A (low (fil (fun a => D a == c - 1 - k) (chn n c A D k).2))) := rfl
/-- What is known of the chain after k steps. -/
structure ChI (n c : Nat) (A D : Nat → Nat) (k : Nat) (l : List Nat) (p : Nat) : Prop where
  lev : ∀ i e, l[i]? = some e → e < n ∧ D e = c - 1 - i
  rel : ∀ i a b, l[i]? = some a → l[i + 1]? = some b → bm A a b = true
  lt : p < M64
  mem : ∀ e, p.testBit e = true → e < n ∧ ∀ a, k = l.length → l[k - 1]? = some a → 0 < k → bm A a e = true
  some : k < c → ∃ e, p.testBit e = true ∧ D e = c - 1 - k
section
variable {n c : Nat} {A D : Nat → Nat} (hn : n ≤ 64) (hA : ∀ i, A i < M64) (hR : SO n (bm A)) (hD : LvOk n (fun a b => bm A b a) c D)
include hn hA hR hD
theorem chn_inv : ∀ k, k ≤ c → ChI n c A D k (chn n c A D k).1 (chn n c A D k).2
  | 0, _ => by
    refine ⟨fun i e h => by simp [chn] at h, fun i a b h => by simp [chn] at h, allS_lt n, fun e he => ?_, fun hc => ?_⟩
    · rw [show (chn n c A D 0).2 = allS n from rfl, allS_bit hn] at he
      exact ⟨by simpa using he, fun _ _ _ h => by omega⟩
    · obtain ⟨x, hx, hx2⟩ := hD.full (c - 1) (by omega)
      exact ⟨x, by rw [show (chn n c A D 0).2 = allS n from rfl, allS_bit hn]; simpa using hx, by rw [hx2]; omega⟩
  | k + 1, hk => by
    have hI := chn_inv k (by omega)
    have hl := chn_len n c A D k
    rw [chn_succ]
    generalize (chn n c A D k).1 = l at *
    generalize (chn n c A D k).2 = p at *
    have hfb : ∀ e, (fil (fun a => D a == c - 1 - k) p).testBit e = true ↔ e < 64 ∧ p.testBit e = true ∧ D e = c - 1 - k := fun e => by
      rw [fil_bit]; simp only [Bool.and_eq_true, decide_eq_true_eq, beq_iff_eq]
      exact ⟨fun ⟨⟨a, b⟩, c⟩ => ⟨a, b, c⟩, fun ⟨a, b, c⟩ => ⟨⟨a, b⟩, c⟩⟩
    obtain ⟨e0, h1, h2⟩ := hI.some (by omega)
    have h0 : fil (fun a => D a == c - 1 - k) p ≠ 0 := by
      intro h0
      have := (hfb e0).2 ⟨by have := (hI.mem e0 h1).1; omega, h1, h2⟩
      rw [h0] at this
      simp at this
    have he := (hfb _).1 (bit_low h0 (fl_lt _ _))
    generalize low (fil (fun a => D a == c - 1 - k) p) = e at he
    have hen := (hI.mem e he.2.1).1
    refine ⟨fun i x hx => ?_, fun i a b ha hb => ?_, hA e, fun y hy => ⟨(hR.lt e y hy).2, fun a _ ha _ => ?_⟩, fun hkc => ?_⟩
    · by_cases hi : i < l.length
      · rw [List.getElem?_append_left hi] at hx; exact hI.lev i x hx
      · rw [List.getElem?_append_right (by omega)] at hx
        have hil : i - l.length = 0 := by have := (List.getElem?_eq_some_iff.1 hx).1; simp at this; omega
        rw [hil] at hx
        simp at hx
        subst hx
        exact ⟨hen, by rw [he.2.2]; omega⟩
    · have hi : i + 1 < (l ++ [e]).length := (List.getElem?_eq_some_iff.1 hb).1
      rw [List.length_append, List.length_singleton] at hi
      rw [List.getElem?_append_left (by omega)] at ha
      by_cases hi2 : i + 1 < l.length
      · rw [List.getElem?_append_left hi2] at hb; exact hI.rel i a b ha hb
      · rw [List.getElem?_append_right (by omega), show i + 1 - l.length = 0 by omega] at hb
        simp at hb
        subst hb
        exact (hI.mem e he.2.1).2 a (by omega) (by rw [show k - 1 = i by omega]; exact ha) (by omega)
    · rw [show k + 1 - 1 = l.length by omega, List.getElem?_append_right (Nat.le_refl _)] at ha
      simp at ha
      subst ha
      exact hy
    · obtain ⟨y, hy, hy2⟩ := hD.step e (c - 1 - (k + 1)) hen (by rw [he.2.2]; omega)
      exact ⟨y, hy, hy2⟩
/-- The longest chain: one element of each level. -/
theorem chn_spec {L : Nat → Nat} {c' : Nat} (hL : LvOk n (bm A) c' L) {l : List Nat} (hl : l = (chn n c A D c).1) :
    l.length = c ∧ (∀ x, x < n → L x < c) ∧ (∀ i e, l[i]? = some e → e < n ∧ L e = i) ∧ (∀ i a b, l[i]? = some a → l[i + 1]? = some b → bm A a b = true) := by
  have hI := chn_inv hn hA hR hD c (Nat.le_refl _)
  have hlen := chn_len n c A D c
  rw [← hl] at hI hlen
  have hfit := fun x hx => LvOk.fit hR hL hD (L x) x hx rfl
  have hge : ∀ i e, l[i]? = some e → i ≤ L e := by
    intro i
    induction i with
    | zero => intro e _; omega
    | succ i ih =>
      intro e he
      obtain ⟨a, ha⟩ : ∃ a, l[i]? = some a := ⟨_, List.getElem?_eq_getElem (by have := (List.getElem?_eq_some_iff.1 he).1; omega)⟩
      have := ih a ha
      have := hL.up a e (hI.rel i a e ha he)
      omega
  refine ⟨hlen, fun x hx => by have := hfit x hx; omega, fun i e he => ?_, hI.rel⟩
  obtain ⟨h1, h2⟩ := hI.lev i e he
  have h3 := hge i e he
  have h4 := hfit e h1
  have h5 := (List.getElem?_eq_some_iff.1 he).1
  exact ⟨h1, by omega⟩
end

set_option maxRecDepth 100000 in
theorem lch1_any (e g lb : Nat) (D : Nat → Nat) (v : Int) (w : World) (he : e < 64) (h1 : w.heap[g]? = some (.cells (fs 64 fun x => (D x : Int)).toArray 66 (0, 0))) (h2 : w.cell? ⟨lb, 0, none⟩ = some (.int .i64 v)) :
    Calls Tryd.prog 49 #[.int .i64 e, .pointer (some ⟨g, 0, none⟩), .pointer (some ⟨lb, 0, none⟩)] w fun x w' => x = .returned (.bool ((D e : Int) == v)) ∧ Below w.heap.size w w' := by
  have c2 := blk_cell h1 (fs_get (fun x => (D x : Int)) he)
  obtain ⟨d, hd⟩ : ∃ d : Int, d = (D e : Int) := ⟨_, rfl⟩
  rw [← hd] at c2 ⊢
  have b1 : (e : Int) < 64 := by omega
  have b0 : (0 : Int) ≤ (e : Int) := by omega
  clear h1 hd he
  go_enter Tryd.func49, Tryd.ntmps49
  go_wp2
  go_quiet (fail)
  go_wp2
  go_ret
  exact ⟨rfl, bel_drewN (Below.refl _ _) _⟩

/-- append of one number, and what it leaves. -/
theorem wpList_ing {ops : Array Oper} {rest : List Oper} {o : Oper} {a : Act} {Q : Exit → Act → World → Prop} (hgd : o.guard = none) (s x : Operand)
    (ho : o.op = .call { callee := .builtin .append, args := #[s, x], argTypes := #[36, 36] })
    {B : Nat} {w : World} {v : Value} {l : List Value} (hv : a.eval s = v) (H : w.ownsRow B 3 1 v l.length l) (hB : B ≤ w.heap.size) (e : Int) (hx : a.eval x = .slice (some ⟨w.heap.size, 0, none⟩) 1 1) (hl : l.length ≤ 1000)
    (h : ∀ (ao : Option Addr) (n cap : Nat) (w' : World), n = l.length + 1 → w'.ownsRow B 3 1 (.slice ao n cap) n (l ++ [.int .i64 e]) → (w.alloc (.cells #[.int .i64 e] 3)).grownBy w' v.ownBlock → ((Value.slice ao n cap).ownBlock = v.ownBlock ∨ (Value.slice ao n cap).ownBlock = some (w.heap.size + 1)) → wpList Tryd.prog ops Q rest (a.put o.dst (.slice ao n cap)) w') :
    wpList Tryd.prog ops Q (o :: rest) a (w.alloc (.cells #[.int .i64 e] 3)) := by
  obtain ⟨i0, hi, hz0, hz1, hz2⟩ := info_parts intsE.info
  have HA := H.alloc (.cells #[.int .i64 e] 3)
  have hsrc : Src Tryd.prog 1 36 (.slice (some ⟨w.heap.size, 0, none⟩) 1 1) 1 [.int .i64 e] (w.alloc (.cells #[.int .i64 e] 3)) := by
    refine Src.ofSlice _ Tryd.underlying36 _ 1 1 [.int .i64 e] rfl (fun j y hy => ?_) (by intro u hu; simp at hu; subst hu; rfl)
    exact World.news_of_block (heap_alloc_new w (.cells #[.int .i64 e] 3)) j y (by simpa using hy)
  refine wpList_append_src _ hgd s x 36 36 ho B 3 i0 (.int .i64 0) 1 8 intsE.und hi hz0 hz1 hz2 rfl (by decide) v l.length l hv HA _ 1 [.int .i64 e] hx hsrc (by unfold maxLen; omega) (by omega) (by simp; omega) ?_
  intro v2 w2 hown hg _ hob
  obtain ⟨ao, cap, rfl⟩ := own_shape hown
  exact h ao _ cap w2 rfl hown hg (by simpa using hob)

def lenOf : Value → Nat
  | .slice _ n _ => n
  | _ => 0
/-- What LongestChain holds: the levels in block g, the level in block lb, the chain. -/
structure CHS (w W : World) (b n g lb : Nat) (A B D : Nat → Nat) (v : Value) (l : List Nat) (lev : Int) : Prop where
  bel : Below w.heap.size w W
  rl : RL W b n A B
  bg : b < g
  wg : w.heap.size ≤ g
  arr : W.heap[g]? = some (.cells (fs 64 fun x => (D x : Int)).toArray 66 (0, 0))
  gl : g < lb
  lv : W.heap[lb]? = some (.cells #[.int .i64 lev] 3 (0, 0))
  own : W.ownsRow (g + 1) 3 1 v l.length (is (nI l))
  ob : ∀ q, v.ownBlock = some q → q < lb
section
variable {w W W' : World} {b n g lb : Nat} {A B D : Nat → Nat} {v : Value} {l : List Nat} {lev : Int}
theorem CHS.at (h : CHS w W b n g lb A B D v l lev) (hb : Below W.heap.size W W') : CHS w W' b n g lb A B D v l lev :=
  ⟨h.bel.trans (hb.mono h.bel.size), h.rl.at hb, h.bg, h.wg, (hb.block _ (lt_of_block h.arr)).trans h.arr, h.gl, (hb.block _ (lt_of_block h.lv)).trans h.lv, own_same h.own fun k hk => hb.block k (h.own.lt k hk).2, h.ob⟩
theorem CHS.app (h : CHS w W b n g lb A B D v l lev) {o : Obj} {ao : Option Addr} {m cap e : Nat} (hg : (W.alloc o).grownBy W' v.ownBlock) (hm : m = l.length + 1) (ho : W'.ownsRow (g + 1) 3 1 (.slice ao m cap) m (is (nI l) ++ [.int .i64 e])) :
    Below w.heap.size w W' ∧ RL W' b n A B ∧ W'.heap[g]? = some (.cells (fs 64 fun x => (D x : Int)).toArray 66 (0, 0)) ∧ W'.heap[lb]? = some (.cells #[.int .i64 lev] 3 (0, 0)) ∧ W'.ownsRow (g + 1) 3 1 (.slice ao m cap) (l ++ [e]).length (is (nI (l ++ [e]))) ∧ ∀ q, (Value.slice ao m cap).ownBlock = some q → q < W'.heap.size := by
  have hz : (W.alloc o).heap.size = W.heap.size + 1 := by simp
  have old : ∀ k, k < W.heap.size → (∀ q, v.ownBlock = some q → k ≠ q) → W'.heap[k]? = W.heap[k]? := fun k hk hne => by
    rw [hg.block k (by omega) (fun e => hne k e.symm rfl)]
    exact (bel_alloc W o).block k hk
  have hlo : ∀ q, v.ownBlock = some q → g + 1 ≤ q := fun q hq => (h.own.lt q hq).1
  have hgs := lt_of_block h.arr
  have hwg := h.wg
  have hbg := h.bg
  refine ⟨⟨hg.os.trans h.bel.os, hg.tape.trans h.bel.tape, hg.output.trans h.bel.output, by have := hg.size; have := h.bel.size; omega, fun k hk => ?_⟩, ?_, ?_, ?_, ?_, fun q hq => (ho.lt q hq).2⟩
  · rw [old k (by omega) (fun q hq => by have := hlo q hq; omega)]
    exact h.bel.block k hk
  · unfold RL; rw [old b (by omega) (fun q hq => by have := hlo q hq; omega)]; exact h.rl
  · rw [old g (by omega) (fun q hq => by have := hlo q hq; omega)]; exact h.arr
  · rw [old lb (lt_of_block h.lv) (fun q hq => by have := h.ob q hq; omega)]; exact h.lv
  · have e1 : (l ++ [e]).length = m := by rw [hm]; simp
    rw [e1, show nI (l ++ [e]) = nI l ++ [(e : Int)] by simp [nI], is_append]
    exact ho
end

set_option maxRecDepth 100000 in
set_option maxHeartbeats 3200000 in
theorem chain_any (n : Nat) (ao : Option Addr) (m cap : Nat) (ps : List Tk) (w : World) (h : TRd w (.slice ao m cap) ps) (hT : Tb w) (hE : errE n ps = 0) :
    Calls Tryd.prog 26 #[.int .i64 n, .slice ao m cap] w fun e w' => ∃ (c : Nat) (D : Nat → Nat) (xo : Option Addr) (xc : Nat), e = .returned (.tuple #[.slice xo c xc, .int .i64 0]) ∧ LvOk n (fun a b => bm (clo n ps) b a) c D ∧ Rd w' (.slice xo c xc) (is (nI (chn n c (clo n ps) D c).1)) ∧ Below w.heap.size w w' := by
  have hC := err_chk hE
  obtain ⟨n', hn', hn⟩ := chk_nat hC
  obtain rfl : n = n' := by omega
  have HC := hid_of (orderOf_any n ao m cap ps w h hT hE)
  have HT := hid_of hT
  have HN := hid_of hn
  have hv := chk_valid hC
  have HSO := hid_of (so_clo hn hv (err_acyc hE))
  have HA9 : Hid (∀ i, clo n ps i < M64) := hid_of ((bd_clo hn hv).m64 hn)
  have HLV : Hid (∀ b wx, RL wx b n (clo n ps) (bef n (clo n ps)) → Tb wx → Calls Tryd.prog 46 #[.pointer (some ⟨b, 0, none⟩), .pointer (some ⟨b, 1, none⟩)] wx fun x w' => ∃ (c : Nat) (L : Nat → Nat), x = .returned (.tuple #[.agg (fs 64 fun x => (L x : Int)).toArray, .int .i64 c]) ∧ LvOk n (fun a b => bm (clo n ps) b a) c L ∧ Below wx.heap.size wx w') := hid_of (fun b wx hr ht =>
    levels_any b n 1 _ _ (clo n ps) (fun a b => bm (clo n ps) b a) wx hr hn ht HA9.out (fun wy i h1 h2 => h1.ca h2) HSO.out.rev (fun e he y => rfl))
  generalize hcl : clo n ps = A at *
  generalize hbf : bef n A = B at *
  clear h hT hC hn' hE hv hcl hbf
  have hmf : ∀ (fn : Fn) (first cap : Array Value) (w : World), (Instr.makeFunc fn first cap).run Tryd.prog w = .ok (.func fn first cap) w := fun _ _ _ _ => rfl
  go_enter Tryd.func26, Tryd.ntmps26
  go_wp2_with (first
    | (go_at_call 41; ((with_reducible refine (HC.out).mono ?_); (rintro ee w1 ⟨b, rfl, h0, h1, h2⟩; have R1 := hid_of h1; have H1 := hid_of h2; clear h0 h1 h2)))
    | (go_at_call 46; ((with_reducible refine (HLV.out _ _ R1.out (HT.out.at H1.out)).mono ?_); (rintro ee w2 ⟨c, D, rfl, h1, h2⟩; have hc9 : (c : Int) ≤ 64 := (by have := h1.le; have := HN.out; omega); have hc0 : (0 : Int) ≤ (c : Int) := (by omega); have K2 := hid_of h1; have R2 := hid_of (R1.out.at h2); have H2 := hid_of (H1.out.trans (h2.mono H1.out.size)); clear h1 h2; obtain ⟨arr, harr⟩ : ∃ arr, arr = (fs 64 fun x => (D x : Int)).toArray := ⟨_, rfl⟩; have HARR := hid_of harr; have HSZ : Hid (arr.size = 64) := hid_of (by rw [harr]; simp [fs]); have HI : Hid ((Tryd.prog.info? 66).map (·.size) = some arr.size) := hid_of (by rw [HSZ.out]; exact info64); have HO1 : Hid (arr.all (·.oneCell') = true) := hid_of (by rw [harr]; exact fs_ok _ _); rw [← harr]; clear harr)))
    | (refine wpList_store_fresh rfl 66 (.tmp 8) (.tmp 29) rfl _ arr rfl rfl rfl _ HI.out (by rw [HSZ.out]; rfl) HO1.out ?_; have H3 := hid_of (bel_alloc w2 (.cells arr 66)); have HB3 := hid_of (heap_alloc_new w2 (.cells arr 66)); have R3 := hid_of (R2.out.at H3.out))
    | (go_at_call 47; ((with_reducible refine (all_any b n A B _ R3.out HN.out).mono ?_); (rintro ee w4 ⟨rfl, rfl⟩))))
  have C0 : Hid (CHS w ((w2.alloc (.cells arr 66)).alloc (.cells #[.int .i64 ((c : Int) - 1)] 3)) b n w2.heap.size (w2.heap.size + 1) A B D (.slice none 0 0) [] ((c : Int) - 1)) := hid_of (by
    have z1 : (w2.alloc (.cells arr 66)).heap.size = w2.heap.size + 1 := by simp
    have B4 := bel_alloc (w2.alloc (.cells arr 66)) (.cells #[.int .i64 ((c : Int) - 1)] 3)
    have n4 := heap_alloc_new (w2.alloc (.cells arr 66)) (.cells #[.int .i64 ((c : Int) - 1)] 3)
    rw [z1] at B4 n4
    exact ⟨H2.out.trans ((H3.out.trans (B4.mono (by omega))).mono H2.out.size), R3.out.at (by rw [z1]; exact B4), lt_of_block R2.out, H2.out.size, (B4.block _ (by omega)).trans (by rw [← HARR.out]; exact HB3.out), by omega, n4, World.ownsRow_nil _ _ _ _, fun q hq => by cases hq⟩)
  obtain ⟨g, hg⟩ : ∃ g, g = w2.heap.size := ⟨_, rfl⟩
  generalize (w2.alloc (.cells arr 66)).alloc (.cells #[.int .i64 ((c : Int) - 1)] 3) = w4 at *
  rw [← hg] at C0 ⊢
  have HCI : Hid (∀ k, k ≤ c → ChI n c A D k (chn n c A D k).1 (chn n c A D k).2) := hid_of (chn_inv HN.out HA9.out HSO.out K2.out)
  have HTB : Hid (∀ wx, Below w.heap.size w wx → Tb wx) := hid_of (fun wx hx => HT.out.at hx)
  clear hg HB3 R3 R2 H3 HARR HSZ HI HO1 HLV HC H2 R1 H1
  go_loopw [10, 11, 12] (fun lv pv qv wr => ∃ (k : Nat) (xo : Option Addr) (xc p lb : Nat), k ≤ c ∧ lv = .slice xo k xc ∧ pv = .int .u64 p ∧ qv = .pointer (some ⟨lb, 0, none⟩) ∧ Hid (p = (chn n c A D k).2 ∧ CHS w wr b n g lb A B D (.slice xo k xc) (chn n c A D k).1 ((c : Int) - 1 - k))) (fun lv _ _ _ => c - lenOf lv)
  case atStart => exact ⟨0, none, 0, _, g + 1, Nat.zero_le _, rfl, rfl, rfl, hid_of ⟨rfl, by rw [show ((c : Int) - 1 - ((0 : Nat) : Int)) = (c : Int) - 1 by omega]; exact C0.out⟩⟩
  case round =>
    clear C0
    obtain ⟨k, xo, xc, p, lb, hk, rfl, rfl, rfl, hs⟩ := hrel
    have r0 := blk_cell (cs := [.int .i64 ((c : Int) - 1 - k)]) hs.out.2.lv (j := 0) rfl
    by_cases hlt : k < c
    · have hd : decide ((0 : Int) ≤ (c : Int) - 1 - k) = true := by simp; omega
      have HL : Hid ((is (nI (chn n c A D k).1)).length = k) := hid_of (by rw [is_length, nI_length, chn_len])
      have HLN : Hid ((chn n c A D k).1.length = k) := hid_of (chn_len n c A D k)
      have hI := HCI.out k hk
      have HP9 : Hid (p < M64) := hid_of (by rw [hs.out.1]; exact hI.lt)
      have HNX := hid_of (chn_succ n c A D k)
      have HI1 := hid_of (HCI.out (k + 1) hlt)
      obtain ⟨q, hq⟩ : ∃ q, q = fil (fun a => D a == c - 1 - k) p := ⟨_, rfl⟩
      have HFL : Hid (Calls Tryd.prog 48 #[.int .u64 p, .func (.func 49) #[] #[.pointer (some ⟨g, 0, none⟩), .pointer (some ⟨lb, 0, none⟩)]] wr fun x w' => x = .returned (.int .u64 q) ∧ Below wr.heap.size wr w') := hid_of (by
        rw [hq]
        exact filter_any 49 #[.pointer (some ⟨g, 0, none⟩), .pointer (some ⟨lb, 0, none⟩)] (fun _ _ => rfl) (fun a => D a == c - 1 - k) p HP9.out wr (HTB.out _ hs.out.2.bel) (fun e wx he hb => (lch1_any e g lb D ((c : Int) - 1 - k) wx he ((hb.block _ (lt_of_block hs.out.2.arr)).trans hs.out.2.arr) ((hb.cell (p := ⟨lb, 0, none⟩) (lt_of_block hs.out.2.lv)).trans r0)).mono fun x w' ⟨h1, h2⟩ => ⟨by rw [h1]; congr 2; rw [Bool.eq_iff_iff]; simp; omega, h2⟩))
      rw [← hs.out.1, ← hq] at HNX
      have HQ9 : Hid (q < M64) := hid_of (by rw [hq]; exact fl_lt _ _)
      obtain ⟨e, he⟩ : ∃ e, e = low q := ⟨_, rfl⟩
      have HLE : Hid (∀ wx, Below wr.heap.size wr wx → Calls Tryd.prog 44 #[.int .u64 q] wx fun x w' => x = .returned (.int .i64 (e : Nat)) ∧ wx = w') := hid_of (fun wx hx => by rw [he]; exact least_any q HQ9.out wx (HTB.out _ (hs.out.2.bel.trans (hx.mono hs.out.2.bel.size))))
      rw [← he] at HNX
      have hen : e < n := by
        have h1 := HI1.out.lev k e (by rw [HNX.out]; simp [HLN.out])
        exact h1.1
      have b1 : (e : Int) < 64 := by have := HN.out; omega
      have b0 : (0 : Int) ≤ (e : Int) := by omega
      have HE64 : Hid (e < 64) := hid_of (by have := HN.out; omega)
      have HEP : Hid (∀ wx, RL wx b n A B → wx.cell? ⟨b, 1 + e, none⟩ = some (.int .u64 (A e : Nat))) := hid_of (fun wx h => h.ca HE64.out)
      clear hI hq he hen
      go_wp2_with (first
        | (go_at_call 48; ((with_reducible refine (HFL.out).mono ?_); (rintro ee w5 ⟨rfl, h5⟩; have B5 := hid_of h5; have S5 := hid_of (hs.out.2.at h5); clear h5)))
        | (go_at_call 44; ((with_reducible refine (HLE.out _ B5.out).mono ?_); (rintro ee w' ⟨rfl, rfl⟩)))
        | (at_builtin; ((refine wpList_ing rfl _ _ rfl (v := .slice xo k xc) rfl (l := is (nI (chn n c A D k).1)) (by rw [HL.out]; have := S5.out.own; rwa [HLN.out] at this) (by have := lt_of_block S5.out.arr; omega) (e : Int) rfl (by rw [HL.out]; omega) ?_); intro yo yn yc w6 hyn ho6 hg6 hob6; have H6 := hid_of (S5.out.app (e := e) hg6 (by rw [hyn, HL.out, HLN.out]) ho6); obtain rfl : yn = k + 1 := (by rw [hyn, HL.out]); have rl6 := HEP.out _ H6.out.2.1; have lv6 := blk_cell (cs := [.int .i64 ((c : Int) - 1 - k)]) H6.out.2.2.2.1 (j := 0) rfl; clear ho6 hg6 hob6 hyn)))
      go_roundw
      case rel =>
        refine ⟨k + 1, yo, yc, A e, w6.heap.size, by omega, rfl, rfl, rfl, hid_of ⟨by rw [HNX.out], ?_⟩⟩
        rw [HNX.out]
        obtain ⟨q1, q2, q3, q4, q5, q6⟩ := H6.out
        have bb := bel_alloc w6 (.cells #[.int .i64 ((c : Int) - 1 - k - 1)] 3)
        rw [show (c : Int) - 1 - ((k + 1 : Nat) : Int) = (c : Int) - 1 - k - 1 by omega]
        exact ⟨q1.trans (bb.mono q1.size), q2.at bb, hs.out.2.bg, hs.out.2.wg, (bb.block _ (lt_of_block q3)).trans q3, lt_of_block q3, heap_alloc_new w6 _, own_same q5 fun k hk => bb.block k (q5.lt k hk).2, q6⟩
      case measure => simp [lenOf]; omega
    · have hd : decide ((0 : Int) ≤ (c : Int) - 1 - k) = false := by simp; omega
      obtain rfl : k = c := by omega
      have HR : Hid (Rd wr (.slice xo k xc) (is (nI (chn n k A D k).1)) ∧ Below w.heap.size w wr) := hid_of ⟨by
        have h1 := hs.out.2.own
        have hl : (chn n k A D k).1.length = k := chn_len n k A D k
        rw [hl] at h1
        exact Ow.rd (B := g + 1) (E := 3) (w0 := wr) ⟨by have := lt_of_block hs.out.2.arr; omega, Below.refl _ _, by rw [is_length, nI_length, hl]; exact h1⟩ (by rw [is_length, nI_length, hl]; omega), hs.out.2.bel⟩
      clear hs
      go_wp2
      go_ret2
      exact ⟨k, D, xo, xc, rfl, K2.out, HR.out.1, HR.out.2⟩
end Go.Proofs.YtjfjcgbdpjpodaaDoor
