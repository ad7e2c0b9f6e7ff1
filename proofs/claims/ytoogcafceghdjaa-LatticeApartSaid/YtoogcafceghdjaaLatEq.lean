/- Equal of package lattice. Bounds on sizes alone. -/
import Derived.Test.YtoogcafceghdjaaLatRul
namespace Go.Proofs.Ytoogcafceghdjaa
open Go.RowKit

theorem lat_eq (k lo hi : Int) (ns : List Str) (ps : List Lat) (rs : List Gr) (u : Lat) : decide (Lat.mk k lo hi ns ps rs = u) = (decide (k = u.k) && decide (lo = u.lo) && decide (hi = u.hi) && decide (ns = u.ns) && decide (ps = u.ps) && decide (rs = u.rs)) := by
  obtain ⟨k2, lo2, hi2, ns2, ps2, rs2⟩ := u
  by_cases h : Lat.mk k lo hi ns ps rs = ⟨k2, lo2, hi2, ns2, ps2, rs2⟩
  · cases h
    simp [Lat.k, Lat.lo, Lat.hi, Lat.ns, Lat.ps, Lat.rs]
  · rw [decide_eq_false h, eq_comm, Bool.eq_false_iff]
    intro h2
    simp only [Bool.and_eq_true] at h2
    obtain ⟨⟨⟨⟨⟨a, b⟩, c⟩, d⟩, e⟩, f⟩ := h2
    have a : k = k2 := of_decide_eq_true a
    have b : lo = lo2 := of_decide_eq_true b
    have c : hi = hi2 := of_decide_eq_true c
    have d : ns = ns2 := of_decide_eq_true d
    have e : ps = ps2 := of_decide_eq_true e
    have f : rs = rs2 := of_decide_eq_true f
    exact h (by rw [a, b, c, d, e, f])
theorem blk_kept {W w' : World} {b : Nat} {cs : List Value} {E : TypeId} {m : Nat × Nat} (hb : W.heap[b]? = some (.cells cs.toArray E m)) (h : Below W.heap.size W w') {j : Nat} {u : Value} (hu : cs[j]? = some u) : w'.cell? ⟨b, j, none⟩ = some u := by
  have := World.news_of_block hb j u (by simpa using hu)
  rw [Addr.add_mid, Nat.zero_add] at this
  exact (h.cell (p := ⟨b, j, none⟩) (lt_of_block hb)).trans this
theorem two_new (w : World) (o o2 : Obj) : ((w.alloc o).alloc o2).heap[w.heap.size]? = some o ∧ ((w.alloc o).alloc o2).heap[w.heap.size + 1]? = some o2 := by
  refine ⟨((bel_alloc (w.alloc o) o2).block w.heap.size (by simp)).trans (heap_alloc_new w o), ?_⟩
  have := heap_alloc_new (w.alloc o) o2
  rw [show (w.alloc o).heap.size = w.heap.size + 1 by simp] at this
  exact this
set_option maxRecDepth 100000 in
set_option maxHeartbeats 3200000 in
theorem equal_any : ∀ (t u : Lat) (kA loA hiA : Int) (anA : Option Addr) (nnA cnA : Nat) (apA : Option Addr) (npA cpA : Nat) (arA : Option Addr) (nrA crA : Nat) (kB loB hiB : Int) (anB : Option Addr) (nnB cnB : Nat) (apB : Option Addr) (npB cpB : Nat) (arB : Option Addr) (nrB crB : Nat) (w : World), LO w kA loA hiA anA nnA cnA apA npA cpA arA nrA crA t → LO w kB loB hiB anB nnB cnB apB npB cpB arB nrB crB u → Calls Try.prog 14 #[.agg #[.int .i64 kA, .int .i64 loA, .int .i64 hiA, .slice anA nnA cnA, .slice apA npA cpA, .slice arA nrA crA], .agg #[.int .i64 kB, .int .i64 loB, .int .i64 hiB, .slice anB nnB cnB, .slice apB npB cpB, .slice arB nrB crB]] w (BoP (decide (t = u)) w) := by
  refine lat_ind ?_
  intro k' lo' hi' ns' ps' rs' ih u kA loA hiA anA nnA cnA apA npA cpA arA nrA crA kB loB hiB anB nnB cnB apB npB cpB arB nrB crB w H1 H2
  obtain rfl : kA = k' := H1.hk
  obtain rfl : loA = lo' := H1.hlo
  obtain rfl : hiA = hi' := H1.hhi
  rw [lat_eq, ← H2.hk, ← H2.hlo, ← H2.hhi]
  have CN := hid_of (fun (wz : World) (hz : Below w.heap.size w wz) => seqs_any ns' u.ns anA anB nnA nnB cnA cnB wz (H1.n.at hz) (H2.n.at hz))
  have CP := hid_of (fun (wz : World) (hz : Below w.heap.size w wz) => eqfl_any 14 (enters_of Try.func14 (by kernel_rfl) rfl) ps' u.ps apA apB npA npB cpA cpB wz (H1.p.at hz) (H2.p.at hz) ih)
  have CR := hid_of (fun (wz : World) (hz : Below w.heap.size w wz) => eqfr_any 38 (enters_of Try.func38 (by kernel_rfl) rfl) rs' u.rs arA arB nrA nrB crA crB wz (H1.r.at hz) (H2.r.at hz) (fun x _ y a b k k2 c c2 w h1 h2 => eqrule_any x y a b k k2 c c2 w h1 h2))
  obtain ⟨qn, hqn⟩ : ∃ q, q = decide (ns' = u.ns) := ⟨_, rfl⟩
  obtain ⟨qp, hqp⟩ : ∃ q, q = decide (ps' = u.ps) := ⟨_, rfl⟩
  obtain ⟨qr, hqr⟩ : ∃ q, q = decide (rs' = u.rs) := ⟨_, rfl⟩
  rw [← hqn] at CN ⊢
  rw [← hqp] at CP ⊢
  rw [← hqr] at CR ⊢
  clear hqn hqp hqr H1 H2 ih
  have HBB := hid_of (((Below.refl w.heap.size w).alloc (Nat.le_refl _) (.cells #[.int .i64 kA, .int .i64 loA, .int .i64 hiA, .slice anA nnA cnA, .slice apA npA cpA, .slice arA nrA crA] 26)).alloc (by simp) (.cells #[.int .i64 kB, .int .i64 loB, .int .i64 hiB, .slice anB nnB cnB, .slice apB npB cpB, .slice arB nrB crB] 26))
  have HC : Hid (∀ w', Below ((w.alloc (.cells #[.int .i64 kA, .int .i64 loA, .int .i64 hiA, .slice anA nnA cnA, .slice apA npA cpA, .slice arA nrA crA] 26)).alloc (.cells #[.int .i64 kB, .int .i64 loB, .int .i64 hiB, .slice anB nnB cnB, .slice apB npB cpB, .slice arB nrB crB] 26)).heap.size ((w.alloc (.cells #[.int .i64 kA, .int .i64 loA, .int .i64 hiA, .slice anA nnA cnA, .slice apA npA cpA, .slice arA nrA crA] 26)).alloc (.cells #[.int .i64 kB, .int .i64 loB, .int .i64 hiB, .slice anB nnB cnB, .slice apB npB cpB, .slice arB nrB crB] 26)) w' →
      w'.cell? ⟨w.heap.size, 4, none⟩ = some (.slice apA npA cpA) ∧ w'.cell? ⟨w.heap.size + 1, 4, none⟩ = some (.slice apB npB cpB) ∧ w'.cell? ⟨w.heap.size, 5, none⟩ = some (.slice arA nrA crA) ∧ w'.cell? ⟨w.heap.size + 1, 5, none⟩ = some (.slice arB nrB crB)) := hid_of (fun w' h => by
    obtain ⟨b1, b2⟩ := two_new w (.cells #[.int .i64 kA, .int .i64 loA, .int .i64 hiA, .slice anA nnA cnA, .slice apA npA cpA, .slice arA nrA crA] 26) (.cells #[.int .i64 kB, .int .i64 loB, .int .i64 hiB, .slice anB nnB cnB, .slice apB npB cpB, .slice arB nrB crB] 26)
    exact ⟨blk_kept (cs := [.int .i64 kA, .int .i64 loA, .int .i64 hiA, .slice anA nnA cnA, .slice apA npA cpA, .slice arA nrA crA]) b1 h rfl, blk_kept (cs := [.int .i64 kB, .int .i64 loB, .int .i64 hiB, .slice anB nnB cnB, .slice apB npB cpB, .slice arB nrB crB]) b2 h rfl, blk_kept (cs := [.int .i64 kA, .int .i64 loA, .int .i64 hiA, .slice anA nnA cnA, .slice apA npA cpA, .slice arA nrA crA]) b1 h rfl, blk_kept (cs := [.int .i64 kB, .int .i64 loB, .int .i64 hiB, .slice anB nnB cnB, .slice apB npB cpB, .slice arB nrB crB]) b2 h rfl⟩)
  by_cases hk : kA = kB
  case neg =>
    have e1 : (kA == kB) = false := beq_eq_false_iff_ne.2 hk
    rw [decide_eq_false hk]
    simp only [Bool.false_and]
    clear hk
    go_enter Try.func14, Try.ntmps14
    go_wp2
    go_ret
    exact ⟨rfl, HBB.out⟩
  by_cases hlo : loA = loB
  case neg =>
    have e1 : (kA == kB) = true := beq_iff_eq.2 hk
    have e2 : (loA == loB) = false := beq_eq_false_iff_ne.2 hlo
    rw [decide_eq_false hlo]
    simp only [Bool.false_and, Bool.and_false]
    clear hk hlo
    go_enter Try.func14, Try.ntmps14
    go_wp2
    go_ret
    exact ⟨rfl, HBB.out⟩
  by_cases hhi : hiA = hiB
  case neg =>
    have e1 : (kA == kB) = true := beq_iff_eq.2 hk
    have e2 : (loA == loB) = true := beq_iff_eq.2 hlo
    have e3 : (hiA == hiB) = false := beq_eq_false_iff_ne.2 hhi
    rw [decide_eq_false hhi]
    simp only [Bool.false_and, Bool.and_false]
    clear hk hlo hhi
    go_enter Try.func14, Try.ntmps14
    go_wp2
    go_ret
    exact ⟨rfl, HBB.out⟩
  have e1 : (kA == kB) = true := beq_iff_eq.2 hk
  have e2 : (loA == loB) = true := beq_iff_eq.2 hlo
  have e3 : (hiA == hiB) = true := beq_iff_eq.2 hhi
  rw [decide_eq_true hk, decide_eq_true hlo, decide_eq_true hhi]
  simp only [Bool.true_and]
  clear hk hlo hhi
  cases qn
  · simp only [Bool.false_and]
    go_enter Try.func14, Try.ntmps14
    go_wp2_with (first | (go_at_call 35; ((with_reducible refine (CN.out _ HBB.out).mono ?_); (rintro e w2 ⟨rfl, h2⟩)); (have H2 := hid_of (HBB.out.trans (h2.mono HBB.out.size))); (have K2 := hid_of h2); (obtain ⟨p4, q4, p5, q5⟩ := HC.out w2 h2); clear h2))
    go_ret
    exact ⟨rfl, H2.out⟩
  cases qp
  · simp only [Bool.true_and, Bool.false_and]
    go_enter Try.func14, Try.ntmps14
    go_wp2_with (first | (go_at_call 35; ((with_reducible refine (CN.out _ HBB.out).mono ?_); (rintro e w2 ⟨rfl, h2⟩)); (have H2 := hid_of (HBB.out.trans (h2.mono HBB.out.size))); (have K2 := hid_of h2); (obtain ⟨p4, q4, p5, q5⟩ := HC.out w2 h2); clear h2) | (go_at_call 36; go_loud ((with_reducible refine (CP.out _ H2.out).mono ?_); (rintro e w3 ⟨rfl, h2⟩)); (have H3 := hid_of (H2.out.trans (h2.mono H2.out.size))); (obtain ⟨s4, t4, s5, t5⟩ := HC.out w3 (K2.out.trans (h2.mono K2.out.size))); clear h2 p4 q4 p5 q5))
    go_ret
    exact ⟨rfl, H3.out⟩
  · simp only [Bool.true_and]
    go_enter Try.func14, Try.ntmps14
    go_wp2_with (first | (go_at_call 35; ((with_reducible refine (CN.out _ HBB.out).mono ?_); (rintro e w2 ⟨rfl, h2⟩)); (have H2 := hid_of (HBB.out.trans (h2.mono HBB.out.size))); (have K2 := hid_of h2); (obtain ⟨p4, q4, p5, q5⟩ := HC.out w2 h2); clear h2) | (go_at_call 36; go_loud ((with_reducible refine (CP.out _ H2.out).mono ?_); (rintro e w3 ⟨rfl, h2⟩)); (have H3 := hid_of (H2.out.trans (h2.mono H2.out.size))); (obtain ⟨s4, t4, s5, t5⟩ := HC.out w3 (K2.out.trans (h2.mono K2.out.size))); clear h2 p4 q4 p5 q5) | (go_at_call 37; ((with_reducible refine (CR.out _ H3.out).mono ?_); (rintro e w4 ⟨rfl, h2⟩)); (have H4 := hid_of (H3.out.trans (h2.mono H3.out.size))); clear h2))
    go_ret
    exact ⟨rfl, H4.out⟩

end Go.Proofs.Ytoogcafceghdjaa
