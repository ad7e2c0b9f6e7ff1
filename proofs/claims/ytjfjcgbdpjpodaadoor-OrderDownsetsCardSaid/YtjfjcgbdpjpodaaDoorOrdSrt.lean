/- filter, ready and Sort of package order. Bounds on sizes alone. -/
import Derived.Test.YtjfjcgbdpjpodaaDoorOrdFun
namespace Go.Proofs.YtjfjcgbdpjpodaaDoor
open Go.RowKit

theorem intsE : Elem Tryd.prog 36 3 (.int .i64 0) 8 := ⟨Tryd.underlying36, by kernel_rfl, rfl⟩
/-- The cells of a list of numbers. -/
def is (l : List Int) : List Value := l.map (Value.int .i64)
theorem is_length (l : List Int) : (is l).length = l.length := by simp [is]
theorem is_one (l : List Int) : ∀ u ∈ is l, u.oneCell' = true := by
  intro u hu; simp only [is, List.mem_map] at hu; obtain ⟨_, _, rfl⟩ := hu; rfl
theorem is_append (a b : List Int) : is (a ++ b) = is a ++ is b := by simp [is]
def nI (l : List Nat) : List Int := l.map (fun x : Nat => (x : Int))
theorem nI_length (l : List Nat) : (nI l).length = l.length := by simp [nI]

def addm (q : Bool) (m e : Nat) : Nat := if q then m ||| sg e else m
def fl (p : Nat → Bool) (l : List Nat) : Nat := l.foldl (fun m e => addm (p e) m e) 0
def fil (p : Nat → Bool) (s : Nat) : Nat := fl p (els s)
theorem addm_lt {q : Bool} {m e : Nat} (h : m < M64) : addm q m e < M64 := by
  unfold addm; split
  · exact or_lt h (sg_lt e)
  · exact h
theorem fl_lt (p : Nat → Bool) (l : List Nat) : fl p l < M64 := foldl_inv (· < M64) _ l 0 (by decide) fun _ _ _ h => addm_lt h
theorem fl_snoc (p : Nat → Bool) (l : List Nat) (e : Nat) : fl p (l ++ [e]) = addm (p e) (fl p l) e := by unfold fl; rw [foldl_snoc]

set_option maxRecDepth 100000 in
set_option maxHeartbeats 800000 in
theorem fil1_any (g : Nat) (lbs : Array Value) (eg : ∀ args w, (callFunc g args).run Tryd.prog w = .ok (.enter g args) w) (kb K e m : Nat) (q : Bool) (w : World) (hkb : w.cell? ⟨kb, 0, none⟩ = some (.func (.func g) #[] lbs)) (hK : w.heap[K]? = some (.cells #[.int .u64 m] 58 (0, 0))) (he : e < 64) (hm : m < M64)
    (hk : Calls Tryd.prog g (#[.int .i64 e] ++ lbs) w fun x w' => x = .returned (.bool q) ∧ Below w.heap.size w w') :
    Calls Tryd.prog 73 #[.int .i64 e, .pointer (some ⟨kb, 0, none⟩), .pointer (some ⟨K, 0, none⟩)] w fun x w' => x = .returned (.tuple #[]) ∧ w'.heap[K]? = some (.cells #[.int .u64 (addm q m e : Nat)] 58 (0, 0)) ∧ Kept (fun k => k = K) w w' := by
  have HK := hid_of hk
  have HC := hid_of hK
  have HE : Hid (e ≤ 64) := hid_of (Nat.le_of_lt he)
  have e1 := u64_or_nat m (sg e) hm (sg_lt e)
  clear hk hK he hm
  cases q
  · go_enter Tryd.func73, Tryd.ntmps73
    go_wp2_with (go_at_fn g; refine (HK.out).mono ?_; rintro x w2 ⟨rfl, h2⟩; have H2 := hid_of h2; clear h2)
    first | go_ret | go_end0
    exact ⟨rfl, (H2.out.block K (lt_of_block HC.out)).trans HC.out, Kept.ofBelow H2.out⟩
  · go_enter Tryd.func73, Tryd.ntmps73
    go_wp2_with (go_at_fn g; refine (HK.out).mono ?_; rintro x w2 ⟨rfl, h2⟩; have H2 := hid_of h2; have C2 := hid_of ((h2.block K (lt_of_block HC.out)).trans HC.out); have c2 := blk_cell (cs := [.int .u64 (m : Nat)]) C2.out (j := 0) rfl; have f2 := blk_free (cs := [.int .u64 (m : Nat)]) C2.out 0; clear h2)
    refine wp_region_still_tail 4 (by kernel_rfl) (by kernel_rfl) ?_
    simp only [List.take_succ_cons, List.take_zero, List.drop_succ_cons, List.drop_zero]
    repeat still_step
    refine wpStill_step (fun K hK => ?_)
    go_simp
    refine ⟨_, still_of (single_any e HE.out _), hK _ ?_⟩
    clear hK K
    repeat still_step
    refine wpStill_nil ?_
    change wpList _ _ _ _ _ w2.drew
    have C3 : Hid (w2.drew.heap[K]? = some (.cells #[.int .u64 (m : Nat)] 58 (0, 0))) := hid_of C2.out
    have c3 : w2.drew.cell? ⟨K, 0, none⟩ = some (.int .u64 (m : Nat)) := c2
    have f3 : w2.drew.frozen? ⟨K, 0, none⟩ = false := f2
    have K3 : Hid (Kept (fun k => k = K) w w2.drew) := hid_of (Kept.ofBelow H2.out).drew
    generalize w2.drew = w3 at *
    go_wp2
    first | go_ret | go_end0
    refine ⟨rfl, ?_, K3.out.trans (Kept.set _ _ _ _)⟩
    have := blk_setCell (k := 0) (u := .int .u64 (m ||| sg e : Nat)) (cur := [.int .u64 (m : Nat)]) C3.out
    exact this

set_option maxRecDepth 100000 in
set_option maxHeartbeats 800000 in
theorem filter_any (g : Nat) (lbs : Array Value) (eg : ∀ args w, (callFunc g args).run Tryd.prog w = .ok (.enter g args) w) (p : Nat → Bool) (s : Nat) (hs : s < M64) (w : World) (hT : Tb w)
    (hk : ∀ e wx, e < 64 → Below w.heap.size w wx → Calls Tryd.prog g (#[.int .i64 e] ++ lbs) wx fun x w' => x = .returned (.bool (p e)) ∧ Below wx.heap.size wx w') :
    Calls Tryd.prog 48 #[.int .u64 s, .func (.func g) #[] lbs] w fun x w' => x = .returned (.int .u64 (fil p s : Nat)) ∧ Below w.heap.size w w' := by
  have HB0 : Hid (Below w.heap.size w ((w.alloc (.cells #[.func (.func g) #[] lbs] 51)).alloc (.cells #[.int .u64 0] 58))) := hid_of ((bel_alloc w _).trans ((bel_alloc _ _).mono (by simp)))
  have HC0 : Hid (((w.alloc (.cells #[.func (.func g) #[] lbs] 51)).alloc (.cells #[.int .u64 0] 58)).heap[w.heap.size + 1]? = some (.cells #[.int .u64 (0 : Nat)] 58 (0, 0))) := hid_of (by simpa using heap_alloc_new (w.alloc (.cells #[.func (.func g) #[] lbs] 51)) (.cells #[.int .u64 0] 58))
  have HK0 : Hid (((w.alloc (.cells #[.func (.func g) #[] lbs] 51)).alloc (.cells #[.int .u64 0] 58)).cell? ⟨w.heap.size, 0, none⟩ = some (.func (.func g) #[] lbs)) := hid_of (
    ((bel_alloc (w.alloc (.cells #[.func (.func g) #[] lbs] 51)) (.cells #[.int .u64 0] 58)).cell (p := ⟨w.heap.size, 0, none⟩) (by simp)).trans (blk_cell (cs := [.func (.func g) #[] lbs]) (heap_alloc_new w _) rfl))
  obtain ⟨w0, hw0⟩ : ∃ w0, w0 = (w.alloc (.cells #[.func (.func g) #[] lbs] 51)).alloc (.cells #[.int .u64 0] 58) := ⟨_, rfl⟩
  rw [← hw0] at HB0 HC0 HK0
  have HE : Hid (Calls Tryd.prog 54 #[.int .u64 s, .func (.func 73) #[] #[.pointer (some ⟨w.heap.size, 0, none⟩), .pointer (some ⟨w.heap.size + 1, 0, none⟩)]] w0 fun x w' => x = .returned (.tuple #[]) ∧ w'.heap[w.heap.size + 1]? = some (.cells #[.int .u64 (fil p s : Nat)] 58 (0, 0)) ∧ Kept (fun k => k = w.heap.size + 1) w0 w') := hid_of (by
    refine each_any 73 #[.pointer (some ⟨w.heap.size, 0, none⟩), .pointer (some ⟨w.heap.size + 1, 0, none⟩)] (fun _ _ => rfl) (fun l wx => wx.heap[w.heap.size + 1]? = some (.cells #[.int .u64 (fl p l : Nat)] 58 (0, 0)) ∧ Kept (fun k => k = w.heap.size + 1) w0 wx) s hs w0 ⟨HC0.out, Kept.refl _ _⟩ ?_ ?_
    · rintro l wx ⟨_, h2⟩
      exact hT.at (HB0.out.trans (h2.below HB0.out.size (fun k hk => by omega)))
    · rintro l e wx ⟨r, hr⟩ ⟨h1, h2⟩
      have he : e < 64 := els_lt (s := s) (by rw [hr]; simp)
      have k1 := (World.cell?_of_block (w := w0) (w' := wx) (a := ⟨w.heap.size, 0, none⟩) (h2.block w.heap.size (World.block_lt_of_cell? _ _ HK0.out) (by omega))).trans HK0.out
      refine (fil1_any g lbs eg w.heap.size (w.heap.size + 1) e (fl p l) (p e) wx k1 h1 he (fl_lt p l) (hk e wx he (HB0.out.trans (h2.below HB0.out.size (fun k hk => by omega))))).mono ?_
      rintro x w' ⟨rfl, q1, q2⟩
      exact ⟨rfl, by rw [fl_snoc]; exact q1, h2.trans q2⟩)
  clear hT hk hs
  have hmf : ∀ (fn : Fn) (first cap : Array Value) (w : World), (Instr.makeFunc fn first cap).run Tryd.prog w = .ok (.func fn first cap) w := fun _ _ _ _ => rfl
  go_enter Tryd.func48, Tryd.ntmps48
  go_wp2_with (first
    | (rw [← hw0]; go_at_call 54; ((with_reducible refine (HE.out).mono ?_); (rintro ee w2 ⟨rfl, h1, h2⟩; have C2 := hid_of h1; have c2 := blk_cell (cs := [.int .u64 (fil p s : Nat)]) h1 (j := 0) rfl; have K2 := hid_of (HB0.out.trans (h2.below HB0.out.size (fun k hk => by omega))); clear h1 h2))))
  go_ret
  exact ⟨rfl, K2.out⟩

def mns (a b : Nat) : Nat := a &&& (18446744073709551615 - b)
theorem mns_lt {a b : Nat} (h : a < M64) : mns a b < M64 := and_lt h
set_option maxRecDepth 100000 in
theorem rdy1_any (b off nb pb e p : Nat) (N : Nat → Nat) (w : World) (he : e < 64) (hn : w.cell? ⟨nb, 0, none⟩ = some (.pointer (some ⟨b, off, none⟩))) (hp : w.cell? ⟨pb, 0, none⟩ = some (.int .u64 p)) (hc : w.cell? ⟨b, off + e, none⟩ = some (.int .u64 (N e))) (hN : N e < M64) (hp9 : p < M64) :
    Calls Tryd.prog 70 #[.int .i64 e, .pointer (some ⟨nb, 0, none⟩), .pointer (some ⟨pb, 0, none⟩)] w fun x w' => x = .returned (.bool (decide (mns (N e) p = 0))) ∧ Below w.heap.size w w' := by
  obtain ⟨q, hq⟩ : ∃ q, q = N e := ⟨_, rfl⟩
  rw [← hq] at hc hN
  have e1 : bits .andNot .u64 (q : Int) (p : Int) = ((mns q p : Nat) : Int) := u64_andNot_nat q p hN hp9
  obtain ⟨r, hr1⟩ : ∃ r, r = mns q p := ⟨_, rfl⟩
  rw [← hr1] at e1
  have HR : Hid (decide (mns (N e) p = 0) = ((r : Int) == 0)) := hid_of (by rw [← hq, ← hr1, Bool.eq_iff_iff]; simp)
  have b1 : (e : Int) < 64 := by omega
  have b0 : (0 : Int) ≤ (e : Int) := by omega
  clear hq hr1 hN hp9 he
  go_enter Tryd.func70, Tryd.ntmps70
  go_wp2
  go_quiet (fail)
  go_wp2
  go_ret
  exact ⟨by rw [HR.out]; rfl, bel_drewN (Below.refl _ _) _⟩

/-- The elements that are not placed but whose needs are. -/
def rdy (n : Nat) (N : Nat → Nat) (p : Nat) : Nat := fil (fun e => decide (mns (N e) p = 0)) (mns (allS n) p)
theorem allS_lt (n : Nat) : allS n < M64 := Nat.mod_lt _ (by decide)
set_option maxRecDepth 100000 in
set_option maxHeartbeats 800000 in
theorem ready_any (b n off p : Nat) (A B N : Nat → Nat) (w : World) (h : RL w b n A B) (hn : n ≤ 64) (hT : Tb w) (hN : ∀ i, N i < M64) (hp : p < M64) (hc : ∀ wx i, RL wx b n A B → i < 64 → wx.cell? ⟨b, off + i, none⟩ = some (.int .u64 (N i))) :
    Calls Tryd.prog 43 #[.pointer (some ⟨b, 0, none⟩), .int .u64 p, .pointer (some ⟨b, off, none⟩)] w fun x w' => x = .returned (.int .u64 (rdy n N p : Nat)) ∧ Below w.heap.size w w' := by
  have HB0 : Hid (Below w.heap.size w ((w.alloc (.cells #[.int .u64 p] 58)).alloc (.cells #[.pointer (some ⟨b, off, none⟩)] 63))) := hid_of ((bel_alloc w _).trans ((bel_alloc _ _).mono (by simp)))
  have hC0 : ((w.alloc (.cells #[.int .u64 p] 58)).alloc (.cells #[.pointer (some ⟨b, off, none⟩)] 63)).cell? ⟨w.heap.size + 1, 0, none⟩ = some (.pointer (some ⟨b, off, none⟩)) := by
    have := blk_cell (cs := [.pointer (some ⟨b, off, none⟩)]) (heap_alloc_new (w.alloc (.cells #[.int .u64 p] 58)) (.cells #[.pointer (some ⟨b, off, none⟩)] 63)) (j := 0) rfl
    simp
  have hK0 : ((w.alloc (.cells #[.int .u64 p] 58)).alloc (.cells #[.pointer (some ⟨b, off, none⟩)] 63)).cell? ⟨w.heap.size, 0, none⟩ = some (.int .u64 p) :=
    ((bel_alloc (w.alloc (.cells #[.int .u64 p] 58)) (.cells #[.pointer (some ⟨b, off, none⟩)] 63)).cell (p := ⟨w.heap.size, 0, none⟩) (by simp)).trans (blk_cell (cs := [.int .u64 p]) (heap_alloc_new w _) rfl)
  obtain ⟨w0, hw0⟩ : ∃ w0, w0 = (w.alloc (.cells #[.int .u64 p] 58)).alloc (.cells #[.pointer (some ⟨b, off, none⟩)] 63) := ⟨_, rfl⟩
  rw [← hw0] at HB0 hC0 hK0
  have HR := hid_of (h.at HB0.out)
  have HAL : Hid (Calls Tryd.prog 47 #[.pointer (some ⟨b, 0, none⟩)] w0.drew fun x w' => x = .returned (.int .u64 (allS n : Nat)) ∧ w0.drew = w') := hid_of (all_any b n A B w0.drew HR.out.drew hn)
  have e1 : bits .andNot .u64 ((allS n : Nat) : Int) (p : Int) = ((mns (allS n) p : Nat) : Int) := u64_andNot_nat _ p (allS_lt n) hp
  have HC0 := hid_of hC0
  have HK0 := hid_of hK0
  have HF : Hid (Calls Tryd.prog 48 #[.int .u64 (mns (allS n) p : Nat), .func (.func 70) #[] #[.pointer (some ⟨w.heap.size + 1, 0, none⟩), .pointer (some ⟨w.heap.size, 0, none⟩)]] w0.drew fun x w' => x = .returned (.int .u64 (rdy n N p : Nat)) ∧ Below w0.heap.size w0 w') := hid_of (Calls.mono (
    filter_any 70 #[.pointer (some ⟨w.heap.size + 1, 0, none⟩), .pointer (some ⟨w.heap.size, 0, none⟩)] (fun _ _ => rfl) (fun e => decide (mns (N e) p = 0)) (mns (allS n) p) (mns_lt (allS_lt n)) w0.drew (hT.at HB0.out.drew) (fun e wx he hb =>
      rdy1_any b off (w.heap.size + 1) w.heap.size e p N wx he ((hb.cell (p := ⟨w.heap.size + 1, 0, none⟩) (World.block_lt_of_cell? _ _ HC0.out)).trans HC0.out) ((hb.cell (p := ⟨w.heap.size, 0, none⟩) (World.block_lt_of_cell? _ _ HK0.out)).trans HK0.out) (hc wx e (HR.out.drew.at hb) he) (hN e) hp)) fun _ _ ⟨q, hq⟩ => ⟨q, ⟨hq.os, hq.tape, hq.output, hq.size, hq.block⟩⟩)
  obtain ⟨al, hal⟩ : ∃ x, x = allS n := ⟨_, rfl⟩
  obtain ⟨mm, hmm⟩ : ∃ x, x = mns (allS n) p := ⟨_, rfl⟩
  rw [← hmm] at e1 HF
  rw [← hal] at e1 HAL
  clear h hT hN hc hp hal hmm
  have hmf : ∀ (fn : Fn) (first cap : Array Value) (w : World), (Instr.makeFunc fn first cap).run Tryd.prog w = .ok (.func fn first cap) w := fun _ _ _ _ => rfl
  go_enter Tryd.func43, Tryd.ntmps43
  go_wp2
  rw [← hw0]
  clear hw0 hC0 hK0
  have r0 := HC0.out
  have r1 := HK0.out
  refine wp_region_still_tail 5 (by kernel_rfl) (by kernel_rfl) ?_
  simp only [List.take_succ_cons, List.take_zero, List.drop_succ_cons, List.drop_zero]
  repeat still_step
  refine wpStill_step (fun K hK => ?_)
  go_simp
  refine ⟨_, still_of HAL.out, hK _ ?_⟩
  clear hK K
  repeat still_step
  refine wpStill_nil ?_
  change wpList _ _ _ _ _ w0.drew
  generalize w0.drew = w6 at *
  go_wp2_with (go_at_call 48; ((with_reducible refine (HF.out).mono ?_); (rintro ee w7 ⟨rfl, h7⟩; have H7 := hid_of h7; clear h7)))
  go_ret
  exact ⟨rfl, HB0.out.trans (H7.out.mono HB0.out.size)⟩

/-- Sort, step by step: what is placed, and the list. -/
def srt (n : Nat) (B : Nat → Nat) : Nat → Nat × List Nat
  | 0 => (0, [])
  | k + 1 => let s := srt n B k; let e := low (rdy n B s.1); (s.1 ||| sg e, s.2 ++ [e])
theorem srt_len (n : Nat) (B : Nat → Nat) : ∀ k, (srt n B k).2.length = k
  | 0 => rfl
  | k + 1 => by simp [srt, srt_len n B k]
theorem rdy_lt (n : Nat) (B : Nat → Nat) (p : Nat) : rdy n B p < M64 := fl_lt _ _
theorem srt_lt (n : Nat) (B : Nat → Nat) : ∀ k, (srt n B k).1 < M64
  | 0 => by show 0 < M64; decide
  | k + 1 => or_lt (srt_lt n B k) (sg_lt _)
def srtL (n : Nat) (ps : List Tk) : List Nat := (srt n (bef n (clo n ps)) n).2

set_option maxRecDepth 100000 in
set_option maxHeartbeats 3200000 in
theorem sort_any (n : Nat) (ao : Option Addr) (m cap : Nat) (ps : List Tk) (w : World) (h : TRd w (.slice ao m cap) ps) (hT : Tb w) (hE : errE n ps = 0) :
    Calls Tryd.prog 24 #[.int .i64 n, .slice ao m cap] w fun e w' => ∃ xo c, e = .returned (.tuple #[.slice xo n c, .int .i64 0]) ∧ Rd w' (.slice xo n c) (is (nI (srtL n ps))) ∧ Below w.heap.size w w' := by
  have hC : chkE n ps = 0 := by
    rcases err_cases n ps with ⟨h1, h2⟩ | ⟨h1, _⟩ | ⟨h1, _⟩
    · exact absurd (h2.symm.trans hE) h1
    · exact h1
    · exact h1
  obtain ⟨n', hn', hn⟩ := chk_nat hC
  obtain rfl : n = n' := by omega
  have HC := hid_of (orderOf_any n ao m cap ps w h hT hE)
  have HT := hid_of hT
  have HN := hid_of hn
  unfold srtL
  have HBB := hid_of (bd_bef hn (clo n ps))
  generalize bef n (clo n ps) = B at *
  clear h hT hC hn' hE
  go_enter Tryd.func24, Tryd.ntmps24
  go_wp2_with (go_at_call 41; ((with_reducible refine (HC.out).mono ?_); (rintro ee w1 ⟨b, rfl, h0, h1, h2⟩; have R1 := hid_of h1; have H1 := hid_of h2; have O1 := hid_of (ow_nil 3 w1); clear h0 h1 h2)))
  go_loopw [8, 9, 21] (fun lv pv iv wr => ∃ (k : Nat) (xo : Option Addr) (xc p : Nat), k ≤ n ∧ iv = .int .i64 k ∧ lv = .slice xo k xc ∧ pv = .int .u64 p ∧ Hid (p = (srt n B k).1 ∧ Ow 3 w1.heap.size w1 wr (.slice xo k xc) (is (nI (srt n B k).2)))) (fun _ _ iv _ => n - (intOf iv).toNat)
  case atStart => exact ⟨0, none, 0, 0, Nat.zero_le _, rfl, rfl, rfl, hid_of ⟨rfl, O1.out⟩⟩
  case round =>
    obtain ⟨k, xo, xc, p, hk, rfl, rfl, rfl, hs⟩ := hrel
    by_cases hlt : k < n
    · have hd : decide (k < n) = true := by simp; omega
      have hd2 : decide ((k : Int) < (n : Int)) = true := by simp; omega
      have HLEN : Hid ((is (nI (srt n B k).2)).length = k) := hid_of (by rw [is_length, nI_length, srt_len])
      have HP9 : Hid (p < M64) := hid_of (by rw [hs.out.1]; exact srt_lt n B k)
      have HR : Hid (RL wr b n (clo n ps) B) := hid_of (R1.out.at hs.out.2.bel)
      have HTR : Hid (Tb wr) := hid_of (HT.out.at (H1.out.trans (hs.out.2.bel.mono H1.out.size)))
      have HRD : Hid (Calls Tryd.prog 43 #[.pointer (some ⟨b, 0, none⟩), .int .u64 p, .pointer (some ⟨b, 65, none⟩)] wr fun x w' => x = .returned (.int .u64 (rdy n B p : Nat)) ∧ Below wr.heap.size wr w') := hid_of (ready_any b n 65 p _ B B wr HR.out HN.out HTR.out (fun i => HBB.out.m64 HN.out i) HP9.out (fun wx i hr hi => hr.cb hi))
      obtain ⟨rd, hrd⟩ : ∃ x, x = rdy n B p := ⟨_, rfl⟩
      rw [← hrd] at HRD
      have HLW : Hid (∀ wx, Below wr.heap.size wr wx → Calls Tryd.prog 44 #[.int .u64 rd] wx fun x w' => x = .returned (.int .i64 (low rd)) ∧ wx = w') := hid_of (fun wx hx => least_any rd (by rw [hrd]; exact rdy_lt _ _ _) wx (HTR.out.at hx))
      obtain ⟨e, he⟩ : ∃ x, x = low rd := ⟨_, rfl⟩
      rw [← he] at HLW
      have HE9 : Hid (e ≤ 64) := hid_of (by rw [he, hrd]; exact low_le _ (rdy_lt _ _ _))
      have e1 := u64_or_nat p (sg e) HP9.out (sg_lt e)
      have HS1 : Hid (srt n B (k + 1) = (p ||| sg e, (srt n B k).2 ++ [e])) := hid_of (by rw [he, hrd, hs.out.1]; rfl)
      have R1x : Hid (∀ wx : World, Rd (wx.alloc (.cells #[.int .i64 (e : Int)] 3)) (.slice (some ⟨wx.heap.size, 0, none⟩) 1 1) (is [(e : Int)])) := hid_of (fun wx => rd_new (l := is [(e : Int)]) (n := 1) (cs := #[.int .i64 (e : Int)]) (E := 3) (m := (0, 0)) rfl rfl (by simp [is]))
      clear hrd he
      go_wp2_with (first
        | (go_at_call 43; ((with_reducible refine (HRD.out).mono ?_); (rintro ee w2 ⟨rfl, h2⟩; have H2 := hid_of h2; have O2 := hid_of (hs.out.2.later h2); clear h2)))
        | (go_at_call 44; ((with_reducible refine (HLW.out _ H2.out).mono ?_); (rintro ee w' ⟨rfl, rfl⟩)))
        | (at_builtin; ((refine wpList_app intsE rfl _ _ rfl (v := .slice xo k xc) rfl (O2.out.alloc _) (vx := .slice (some ⟨w2.heap.size, 0, none⟩) 1 1) rfl (R1x.out w2) (is_one _) (by rw [HLEN.out, is_length]; simp; omega) (by rw [HLEN.out, is_length]; simp; omega) ?_); intro xo3 n3 c3 w3 hn3 h3; obtain rfl : n3 = k + 1 := (by rw [hn3, HLEN.out, is_length]; rfl); have X3 := hid_of h3; clear h3 hn3))
        | (go_at_call 45; ((with_reducible refine (single_any e HE9.out w3).mono ?_); (rintro ee w' ⟨rfl, rfl⟩))))
      go_roundw
      case rel => exact ⟨k + 1, xo3, c3, p ||| sg e, by omega, by go_num, rfl, rfl, hid_of ⟨by rw [HS1.out], by rw [HS1.out, show nI ((srt n B k).2 ++ [e]) = nI (srt n B k).2 ++ [(e : Int)] by simp [nI], is_append]; exact X3.out⟩⟩
      case measure => simp [intOf]; omega
    · have hd : decide (k < n) = false := by simp; omega
      have hd2 : decide ((k : Int) < (n : Int)) = false := by simp; omega
      obtain rfl : k = n := by omega
      have HRR := hid_of (hs.out.2.rd (by rw [is_length, nI_length, srt_len]; omega))
      have HBE := hid_of (H1.out.trans (hs.out.2.bel.mono H1.out.size))
      go_wp2
      go_ret2
      exact ⟨xo, xc, rfl, HRR.out, HBE.out⟩
end Go.Proofs.YtjfjcgbdpjpodaaDoor
