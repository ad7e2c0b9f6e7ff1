/- orderOf, Closure, Acyclic, Reduction of package order, and what all functions answer to relations that are not valid or not acyclic. Bounds on sizes alone. -/
import Derived.Test.YtjfjcgbdpjpodaaDoorOrdPrs
namespace Go.Proofs.YtjfjcgbdpjpodaaDoor
open Go.RowKit

theorem chk_cases (n : Int) (ps : List Tk) : chkE n ps = 0 ∨ chkE n ps = 1 ∨ chkE n ps = 5 ∨ chkE n ps = 6 := by
  unfold chkE; split <;> (try split) <;> (try split) <;> simp
theorem chk_nat {n : Int} {ps : List Tk} (h : chkE n ps = 0) : ∃ m : Nat, n = m ∧ m ≤ 64 := by
  unfold chkE at h
  split at h
  · cases h
  · exact ⟨n.toNat, by omega, by omega⟩
theorem chk_valid {n : Nat} {ps : List Tk} (h : chkE n ps = 0) : valid n ps = true := by
  unfold chkE at h
  split at h
  · cases h
  · split at h
    · cases h
    · split at h
      · rename_i h5; rw [← okp_valid]; exact h5
      · cases h
/-- What the functions answer that ask for an acyclic relation. -/
def errE (n : Int) (ps : List Tk) : Int := if chkE n ps = 0 then (if acyc n.toNat (clo n.toNat ps) then 0 else 9) else chkE n ps
theorem err_cases (n : Int) (ps : List Tk) : (chkE n ps ≠ 0 ∧ errE n ps = chkE n ps) ∨ (chkE n ps = 0 ∧ acyc n.toNat (clo n.toNat ps) = false ∧ errE n ps = 9) ∨ (chkE n ps = 0 ∧ acyc n.toNat (clo n.toNat ps) = true ∧ errE n ps = 0) := by
  unfold errE
  by_cases h : chkE n ps = 0
  · rw [if_pos h]
    cases hb : acyc n.toNat (clo n.toNat ps) <;> simp [h]
  · rw [if_neg h]; exact .inl ⟨h, rfl⟩

set_option maxRecDepth 100000 in
theorem closureOf_err (n : Int) (ao : Option Addr) (m cap : Nat) (ps : List Tk) (w : World) (h : TRd w (.slice ao m cap) ps) (E : Int) (hE : chkE n ps = E) (h0 : E ≠ 0) :
    Calls Tryd.prog 37 #[.int .i64 n, .slice ao m cap] w fun e w' => e = .returned (.tuple #[.pointer none, .int .i64 E]) ∧ Below w.heap.size w w' := by
  have HC := hid_of (check_any n ao m cap ps w h)
  rw [hE] at HC
  have hd : (E != 0) = true := by simpa using h0
  clear h hE h0
  go_enter Tryd.func37, Tryd.ntmps37
  go_wp2_with (go_at_call 15; ((with_reducible refine (HC.out).mono ?_); (rintro ee w1 ⟨rfl, h1⟩; have H1 := hid_of h1; clear h1)))
  go_ret2
  exact ⟨rfl, H1.out⟩

set_option maxRecDepth 100000 in
theorem orderOf_err (n : Int) (ao : Option Addr) (m cap : Nat) (ps : List Tk) (w : World) (h : TRd w (.slice ao m cap) ps) (hT : Tb w) (E : Int) (hE : errE n ps = E) (h0 : E ≠ 0) :
    Calls Tryd.prog 41 #[.int .i64 n, .slice ao m cap] w fun e w' => e = .returned (.tuple #[.pointer none, .int .i64 E]) ∧ Below w.heap.size w w' := by
  rcases err_cases n ps with ⟨h1, h2⟩ | ⟨h1, h2, h3⟩ | ⟨_, _, h3⟩
  · have HC := hid_of (closureOf_err n ao m cap ps w h E (by rw [← hE, h2]) h0)
    have hd : (E != 0) = true := by simpa using h0
    clear h hE h0 h1 h2
    go_enter Tryd.func41, Tryd.ntmps41
    go_wp2_with (go_at_call 37; ((with_reducible refine (HC.out).mono ?_); (rintro ee w1 ⟨rfl, h1⟩; have H1 := hid_of h1; clear h1)))
    go_ret2
    exact ⟨rfl, H1.out⟩
  · obtain ⟨k, rfl, hk⟩ := chk_nat h1
    rw [h3] at hE
    subst hE
    have HC := hid_of (closureOf_any k hk ao m cap ps w h hT h1)
    have HA : Hid (∀ b wx, RL wx b k (clo k ps) (bef k (clo k ps)) → Calls Tryd.prog 40 #[.pointer (some ⟨b, 0, none⟩)] wx fun x w' => x = .returned (.bool false) ∧ wx = w') := hid_of (fun b wx hr => by
      have := acyclic_any b k _ _ wx hr hk (bd_clo hk (chk_valid h1))
      rw [show acyc k (clo k ps) = false from h2] at this
      exact this)
    clear h hT h0 h1 h2 h3
    go_enter Tryd.func41, Tryd.ntmps41
    go_wp2_with (first
      | (go_at_call 37; ((with_reducible refine (HC.out).mono ?_); (rintro ee w1 ⟨b, rfl, _, h1, h2⟩; have R1 := hid_of h1; have H1 := hid_of h2; clear h1 h2)))
      | (go_at_call 40; ((with_reducible refine (HA.out _ _ R1.out).mono ?_); (rintro ee w2 ⟨rfl, rfl⟩))))
    go_ret2
    exact ⟨rfl, H1.out⟩
  · exact absurd (hE.symm.trans h3) h0

set_option maxRecDepth 100000 in
theorem orderOf_any (k : Nat) (ao : Option Addr) (m cap : Nat) (ps : List Tk) (w : World) (h : TRd w (.slice ao m cap) ps) (hT : Tb w) (hE : errE k ps = 0) :
    Calls Tryd.prog 41 #[.int .i64 k, .slice ao m cap] w fun e w' => ∃ b, e = .returned (.tuple #[.pointer (some ⟨b, 0, none⟩), .int .i64 0]) ∧ w.heap.size ≤ b ∧ RL w' b k (clo k ps) (bef k (clo k ps)) ∧ Below w.heap.size w w' := by
  rcases err_cases k ps with ⟨h1, h2⟩ | ⟨h1, h2, h3⟩ | ⟨h1, h2, _⟩
  · exact absurd (h2.symm.trans hE) h1
  · rw [h3] at hE; cases hE
  · obtain ⟨k', hk', hk⟩ := chk_nat h1
    obtain rfl : k = k' := by omega
    have HC := hid_of (closureOf_any k hk ao m cap ps w h hT h1)
    have HA : Hid (∀ b wx, RL wx b k (clo k ps) (bef k (clo k ps)) → Calls Tryd.prog 40 #[.pointer (some ⟨b, 0, none⟩)] wx fun x w' => x = .returned (.bool true) ∧ wx = w') := hid_of (fun b wx hr => by
      have := acyclic_any b k _ _ wx hr hk (bd_clo hk (chk_valid h1))
      rw [show acyc k (clo k ps) = true from h2] at this
      exact this)
    clear h hT h1 h2 hE hk'
    go_enter Tryd.func41, Tryd.ntmps41
    go_wp2_with (first
      | (go_at_call 37; ((with_reducible refine (HC.out).mono ?_); (rintro ee w1 ⟨b, rfl, h0, h1, h2⟩; have L1 := hid_of h0; have R1 := hid_of h1; have H1 := hid_of h2; clear h0 h1 h2)))
      | (go_at_call 40; ((with_reducible refine (HA.out _ _ R1.out).mono ?_); (rintro ee w2 ⟨rfl, rfl⟩))))
    go_ret2
    exact ⟨b, rfl, L1.out, R1.out, H1.out⟩

set_option maxRecDepth 100000 in
theorem clo_keep (a x : Int) (w : World) : Calls Tryd.prog 39 #[.int .i64 a, .int .i64 x] w fun e w' => e = .returned (.bool true) ∧ w = w' := by
  go_enter Tryd.func39, Tryd.ntmps39
  go_wp2
  go_ret
  exact ⟨rfl, rfl⟩

set_option maxRecDepth 100000 in
theorem closure_err (n : Int) (ao : Option Addr) (m cap : Nat) (ps : List Tk) (w : World) (h : TRd w (.slice ao m cap) ps) (E : Int) (hE : chkE n ps = E) (h0 : E ≠ 0) :
    Calls Tryd.prog 16 #[.int .i64 n, .slice ao m cap] w fun e w' => e = .returned (.tuple #[.slice none 0 0, .int .i64 E]) ∧ Below w.heap.size w w' := by
  have HC := hid_of (closureOf_err n ao m cap ps w h E hE h0)
  have hd : (E != 0) = true := by simpa using h0
  clear h hE h0
  go_enter Tryd.func16, Tryd.ntmps16
  go_wp2_with (go_at_call 37; ((with_reducible refine (HC.out).mono ?_); (rintro ee w1 ⟨rfl, h1⟩; have H1 := hid_of h1; clear h1)))
  go_ret2
  exact ⟨rfl, H1.out⟩

/-- The closure as a list. -/
def cloL (n : Nat) (ps : List Tk) : List Tk := prs n (clo n ps) fun _ _ => true
set_option maxRecDepth 100000 in
theorem closure_any (n : Nat) (ao : Option Addr) (m cap : Nat) (ps : List Tk) (w : World) (h : TRd w (.slice ao m cap) ps) (hT : Tb w) (hC : chkE n ps = 0) :
    Calls Tryd.prog 16 #[.int .i64 n, .slice ao m cap] w fun e w' => ∃ xo k c, e = .returned (.tuple #[.slice xo k c, .int .i64 0]) ∧ k = (cloL n ps).length ∧ TRd w' (.slice xo k c) (cloL n ps) ∧ Below w.heap.size w w' := by
  obtain ⟨n', hn', hn⟩ := chk_nat hC
  obtain rfl : n = n' := by omega
  have HC := hid_of (closureOf_any n hn ao m cap ps w h hT hC)
  have HT := hid_of hT
  have HP : Hid (∀ b wx, RL wx b n (clo n ps) (bef n (clo n ps)) → Tb wx → Calls Tryd.prog 38 #[.pointer (some ⟨b, 0, none⟩), .func (.func 39) #[] #[]] wx fun e w' => ∃ ao m cap, e = .returned (.slice ao m cap) ∧ m = (cloL n ps).length ∧ TRd w' (.slice ao m cap) (cloL n ps) ∧ Below wx.heap.size wx w') := hid_of (fun b wx hr ht =>
    pairs_any 39 #[] (fun _ _ => rfl) b n _ _ (fun _ _ => true) wx hr hn (bd_clo hn (chk_valid hC)) ht (fun a x wy _ _ _ => (clo_keep a x wy).mono fun e w' ⟨h1, h2⟩ => ⟨h1, by rw [← h2]; exact Below.refl _ _⟩))
  clear h hT hC hn'
  go_enter Tryd.func16, Tryd.ntmps16
  go_wp2_with (first
    | (go_at_call 37; ((with_reducible refine (HC.out).mono ?_); (rintro ee w1 ⟨b, rfl, h0, h1, h2⟩; have R1 := hid_of h1; have H1 := hid_of h2; have T1 := hid_of (HT.out.at h2); clear h0 h1 h2)))
    | (go_at_call 38; ((with_reducible refine (HP.out _ _ R1.out T1.out).mono ?_); (rintro ee w2 ⟨xo, k, c, rfl, h1, h2, h3⟩; have K2 := hid_of h1; have R2 := hid_of h2; have H2 := hid_of (H1.out.trans (h3.mono H1.out.size)); clear h1 h2 h3))))
  go_ret2
  exact ⟨xo, k, c, rfl, K2.out, R2.out, H2.out⟩

set_option maxRecDepth 100000 in
theorem acyc_err (n : Int) (ao : Option Addr) (m cap : Nat) (ps : List Tk) (w : World) (h : TRd w (.slice ao m cap) ps) (E : Int) (hE : chkE n ps = E) (h0 : E ≠ 0) :
    Calls Tryd.prog 17 #[.int .i64 n, .slice ao m cap] w fun e w' => e = .returned (.tuple #[.bool false, .int .i64 E]) ∧ Below w.heap.size w w' := by
  have HC := hid_of (closureOf_err n ao m cap ps w h E hE h0)
  have hd : (E != 0) = true := by simpa using h0
  clear h hE h0
  go_enter Tryd.func17, Tryd.ntmps17
  go_wp2_with (go_at_call 37; ((with_reducible refine (HC.out).mono ?_); (rintro ee w1 ⟨rfl, h1⟩; have H1 := hid_of h1; clear h1)))
  go_ret2
  exact ⟨rfl, H1.out⟩
set_option maxRecDepth 100000 in
theorem acyc_any (n : Nat) (ao : Option Addr) (m cap : Nat) (ps : List Tk) (w : World) (h : TRd w (.slice ao m cap) ps) (hT : Tb w) (hC : chkE n ps = 0) :
    Calls Tryd.prog 17 #[.int .i64 n, .slice ao m cap] w fun e w' => e = .returned (.tuple #[.bool (acyc n (clo n ps)), .int .i64 0]) ∧ Below w.heap.size w w' := by
  obtain ⟨n', hn', hn⟩ := chk_nat hC
  obtain rfl : n = n' := by omega
  have HC := hid_of (closureOf_any n hn ao m cap ps w h hT hC)
  have HA : Hid (∀ b wx, RL wx b n (clo n ps) (bef n (clo n ps)) → Calls Tryd.prog 40 #[.pointer (some ⟨b, 0, none⟩)] wx fun x w' => x = .returned (.bool (acyc n (clo n ps))) ∧ wx = w') := hid_of (fun b wx hr => acyclic_any b n _ _ wx hr hn (bd_clo hn (chk_valid hC)))
  clear h hT hC hn'
  go_enter Tryd.func17, Tryd.ntmps17
  go_wp2_with (first
    | (go_at_call 37; ((with_reducible refine (HC.out).mono ?_); (rintro ee w1 ⟨b, rfl, h0, h1, h2⟩; have R1 := hid_of h1; have H1 := hid_of h2; clear h0 h1 h2)))
    | (go_at_call 40; ((with_reducible refine (HA.out _ _ R1.out).mono ?_); (rintro ee w2 ⟨rfl, rfl⟩))))
  go_ret2
  exact ⟨rfl, H1.out⟩

set_option maxRecDepth 100000 in
theorem red1_any (b n : Nat) (A B : Nat → Nat) (rb a x : Nat) (w : World) (h : RL w b n A B) (hr : w.cell? ⟨rb, 0, none⟩ = some (.pointer (some ⟨b, 0, none⟩))) (ha : a < 64) (hx : x < 64) (hA : A a < M64) (hB : B x < M64) :
    Calls Tryd.prog 42 #[.int .i64 a, .int .i64 x, .pointer (some ⟨rb, 0, none⟩)] w fun e w' => e = .returned (.bool (decide (A a &&& B x = 0))) ∧ Below w.heap.size w w' := by
  have c1 := h.ca ha
  have c2 := h.cb hx
  obtain ⟨p, hp⟩ : ∃ p, p = A a := ⟨_, rfl⟩
  obtain ⟨q, hq⟩ : ∃ q, q = B x := ⟨_, rfl⟩
  rw [← hp] at c1 hA
  rw [← hq] at c2 hB
  have e1 := u64_and_nat p q hA hB
  obtain ⟨r, hr1⟩ : ∃ r, r = p &&& q := ⟨_, rfl⟩
  rw [← hr1] at e1
  have HR : Hid (decide (A a &&& B x = 0) = ((r : Int) == 0)) := hid_of (by rw [← hp, ← hq, ← hr1, Bool.eq_iff_iff]; simp)
  have b1 : (a : Int) < 64 := by omega
  have b0 : (0 : Int) ≤ (a : Int) := by omega
  have b3 : (x : Int) < 64 := by omega
  have b2 : (0 : Int) ≤ (x : Int) := by omega
  clear h hp hq hr1 hA hB ha hx
  go_enter Tryd.func42, Tryd.ntmps42
  go_wp2
  go_quiet (fail)
  go_wp2
  go_ret
  exact ⟨by rw [HR.out]; rfl, bel_drewN (Below.refl _ _) _⟩

/-- The reduction as a list. -/
def redL (n : Nat) (ps : List Tk) : List Tk := prs n (clo n ps) fun a x => decide (clo n ps a &&& bef n (clo n ps) x = 0)
set_option maxRecDepth 100000 in
theorem reduction_any (n : Nat) (ao : Option Addr) (m cap : Nat) (ps : List Tk) (w : World) (h : TRd w (.slice ao m cap) ps) (hT : Tb w) (hE : errE n ps = 0) :
    Calls Tryd.prog 23 #[.int .i64 n, .slice ao m cap] w fun e w' => ∃ xo k c, e = .returned (.tuple #[.slice xo k c, .int .i64 0]) ∧ k = (redL n ps).length ∧ TRd w' (.slice xo k c) (redL n ps) ∧ Below w.heap.size w w' := by
  have hC : chkE n ps = 0 := by
    rcases err_cases n ps with ⟨h1, h2⟩ | ⟨h1, _⟩ | ⟨h1, _⟩
    · exact absurd (h2.symm.trans hE) h1
    · exact h1
    · exact h1
  obtain ⟨n', hn', hn⟩ := chk_nat hC
  obtain rfl : n = n' := by omega
  have HC := hid_of (orderOf_any n ao m cap ps w h hT hE)
  have HT := hid_of hT
  have HP : Hid (∀ b rb wx, RL wx b n (clo n ps) (bef n (clo n ps)) → wx.cell? ⟨rb, 0, none⟩ = some (.pointer (some ⟨b, 0, none⟩)) → Tb wx → Calls Tryd.prog 38 #[.pointer (some ⟨b, 0, none⟩), .func (.func 42) #[] #[.pointer (some ⟨rb, 0, none⟩)]] wx fun e w' => ∃ ao m cap, e = .returned (.slice ao m cap) ∧ m = (redL n ps).length ∧ TRd w' (.slice ao m cap) (redL n ps) ∧ Below wx.heap.size wx w') := hid_of (fun b rb wx hr hc ht =>
    pairs_any 42 #[.pointer (some ⟨rb, 0, none⟩)] (fun _ _ => rfl) b n _ _ (fun a x => decide (clo n ps a &&& bef n (clo n ps) x = 0)) wx hr hn (bd_clo hn (chk_valid hC)) ht (fun a x wy ha hx hw =>
      red1_any b n _ _ rb a x wy (hr.at hw) ((hw.cell (p := ⟨rb, 0, none⟩) (World.block_lt_of_cell? _ _ hc)).trans hc) (by omega) hx ((bd_clo hn (chk_valid hC)).m64 hn a) ((bd_bef hn _).m64 hn x)))
  clear h hT hC hn' hE
  have hmf : ∀ (fn : Fn) (first cap : Array Value) (w : World), (Instr.makeFunc fn first cap).run Tryd.prog w = .ok (.func fn first cap) w := fun _ _ _ _ => rfl
  go_enter Tryd.func23, Tryd.ntmps23
  go_wp2_with (first
    | (go_at_call 41; ((with_reducible refine (HC.out).mono ?_); (rintro ee w1 ⟨b, rfl, h0, h1, h2⟩; have R1 := hid_of (h1.at (bel_alloc w1 (.cells #[.pointer (some ⟨b, 0, none⟩)] 52))); have H1 := hid_of (h2.trans ((bel_alloc w1 (.cells #[.pointer (some ⟨b, 0, none⟩)] 52)).mono h2.size)); have T1 := hid_of (HT.out.at H1.out); have C1 : Hid ((w1.alloc (.cells #[.pointer (some ⟨b, 0, none⟩)] 52)).cell? ⟨w1.heap.size, 0, none⟩ = some (.pointer (some ⟨b, 0, none⟩))) := hid_of (blk_cell (cs := [.pointer (some ⟨b, 0, none⟩)]) (heap_alloc_new w1 _) rfl); clear h0 h1 h2)))
    | (go_at_call 38; ((with_reducible refine (HP.out _ _ _ R1.out C1.out T1.out).mono ?_); (rintro ee w2 ⟨xo, k, c, rfl, h1, h2, h3⟩; have K2 := hid_of h1; have R2 := hid_of h2; have H2 := hid_of (H1.out.trans (h3.mono H1.out.size)); clear h1 h2 h3))))
  go_ret2
  exact ⟨xo, k, c, rfl, K2.out, R2.out, H2.out⟩
end Go.Proofs.YtjfjcgbdpjpodaaDoor
