/- The reference's Pairs and Reduction. Bounds on sizes alone. -/
import Derived.Test.YtjfjcgbdpjpodaaDoorOrdRfs
namespace Go.Proofs.YtjfjcgbdpjpodaaDoor
open Go.RowKit

def rowp (M : Nat → Nat → Bool) (a b : Nat) : List Tk := ((List.range b).filter (M a)).map fun x : Nat => ((a : Int), (x : Int))
def matp (n : Nat) (M : Nat → Nat → Bool) (a : Nat) : List Tk := (List.range a).flatMap fun i => rowp M i n
theorem matp_succ (n : Nat) (M : Nat → Nat → Bool) (a : Nat) : matp n M (a + 1) = matp n M a ++ rowp M a n := by
  unfold matp; rw [List.range_succ, List.flatMap_append]; simp
theorem rowp_succ (M : Nat → Nat → Bool) (a b : Nat) (l : List Tk) : l ++ rowp M a (b + 1) = addp (M a b) (l ++ rowp M a b) ((a : Int), (b : Int)) := by
  unfold rowp addp
  rw [List.range_succ, List.filter_append]
  cases h : M a b <;> simp [h]
theorem rowp_len (M : Nat → Nat → Bool) (a b : Nat) : (rowp M a b).length ≤ b := by
  unfold rowp
  rw [List.length_map]
  exact Nat.le_trans (List.length_filter_le _ _) (by simp)
theorem matp_len (n : Nat) (M : Nat → Nat → Bool) : ∀ a, (matp n M a).length ≤ n * a
  | 0 => by simp [matp]
  | a + 1 => by
    rw [matp_succ, List.length_append, Nat.mul_succ]
    have := matp_len n M a; have := rowp_len M a n; omega
theorem matp_len9 {n : Nat} (hn : n ≤ 64) (M : Nat → Nat → Bool) {a b : Nat} (ha : a ≤ n) (hb : b ≤ n) : (matp n M a ++ rowp M a b).length ≤ 10000 := by
  rw [List.length_append]
  have h1 := matp_len n M a
  have h2 := rowp_len M a b
  have h3 : n * a ≤ 64 * 64 := Nat.mul_le_mul hn (by omega)
  omega
theorem filter_range {p : Nat → Bool} {n : Nat} : ∀ N, n ≤ N → (∀ j, p j = true → j < n) → (List.range N).filter p = (List.range n).filter p := by
  intro N
  induction N with
  | zero => intro h _; rw [show n = 0 by omega]
  | succ N ih =>
    intro h hp
    by_cases he : n = N + 1
    · rw [he]
    · rw [List.range_succ, List.filter_append, ih (by omega) hp]
      have : p N = false := by rw [Bool.eq_false_iff]; intro h1; have := hp N h1; omega
      simp [this]
theorem pr1_row {n : Nat} (hn : n ≤ 64) {A : Nat → Nat} (hA : Bd n A) (kp M : Nat → Nat → Bool) (a : Nat) (h : ∀ j, j < n → M a j = ((A a).testBit j && kp a j)) : pr1 A kp a = rowp M a n := by
  unfold pr1 rowp els
  rw [List.filter_filter, filter_range 64 hn (fun j hj => by simp only [Bool.and_eq_true] at hj; exact hA.bit hj.2)]
  congr 1
  apply List.filter_congr
  intro j hj
  rw [h j (by simpa using hj), Bool.and_comm]
theorem flatMap_eq {α β : Type} {f g : α → List β} : ∀ {l : List α}, (∀ x ∈ l, f x = g x) → l.flatMap f = l.flatMap g
  | [], _ => rfl
  | x :: r, h => by rw [List.flatMap_cons, List.flatMap_cons, h x (by simp), flatMap_eq (fun y hy => h y (by simp [hy]))]
theorem prs_mat {n : Nat} (hn : n ≤ 64) {A : Nat → Nat} (hA : Bd n A) (kp M : Nat → Nat → Bool) (h : ∀ a j, a < n → j < n → M a j = ((A a).testBit j && kp a j)) : prs n A kp = matp n M n := by
  unfold prs matp
  exact flatMap_eq fun a ha => pr1_row hn hA kp M a (fun j hj => h a j (by simpa using ha) hj)
theorem cloL_mat {n : Nat} (hn : n ≤ 64) {ps : List Tk} (h : valid n ps = true) : cloL n ps = matp n (bm (clo n ps)) n :=
  prs_mat hn (bd_clo hn h) _ _ fun a j _ _ => by simp [bm]

theorem vis_bit {a : Nat} (ha : a < 64) (j c : Nat) : ∀ (l : List Nat) (B : Nat → Nat), (vis a B l j).testBit c = ((B j).testBit c || (decide (j ∈ l) && decide (c = a)))
  | [], B => by simp [vis]
  | x :: r, B => by
    have e : vis a B (x :: r) = vis a (upd B x (B x ||| sg a)) r := rfl
    rw [e, vis_bit ha j c r]
    by_cases hx : j = x
    · subst hx
      rw [upd_same, Nat.testBit_or, sg_bit ha]
      by_cases hc : c = a
      · subst hc; simp
      · simp [hc, Ne.symm hc]
    · rw [upd_other _ _ hx]
      simp [hx]
theorem bef_bit {n : Nat} (hn : n ≤ 64) (A : Nat → Nat) (j c : Nat) (hj : j < 64) : ∀ k, k ≤ n → ((List.range k).foldl (bef1 A) (fun _ => 0) j).testBit c = (decide (c < k) && (A c).testBit j)
  | 0, _ => by simp
  | k + 1, hk => by
    rw [range_foldl_succ]
    have e : ∀ B, bef1 A B k = vis k B (els (A k)) := fun _ => rfl
    rw [e, vis_bit (by omega), bef_bit hn A j c hj k (by omega)]
    by_cases hc : c = k
    · subst hc
      have : decide (j ∈ els (A c)) = (A c).testBit j := by rw [Bool.eq_iff_iff, decide_eq_true_eq, mem_els]; simp [hj]
      rw [this]
      simp
    · have : decide (c < k + 1) = decide (c < k) := by rw [Bool.eq_iff_iff]; simp; omega
      rw [this]
      simp [hc]
/-- The covering pairs as a matrix. -/
def rm (n : Nat) (M : Nat → Nat → Bool) : Nat → Nat → Bool := fun a b => M a b && !((List.range n).any fun c => M a c && M c b)
theorem redL_mat {n : Nat} (hn : n ≤ 64) {ps : List Tk} (h : valid n ps = true) : redL n ps = matp n (rm n (bm (clo n ps))) n := by
  refine prs_mat hn (bd_clo hn h) _ _ fun a j ha hj => ?_
  unfold rm bm
  congr 1
  rw [Bool.eq_iff_iff, decide_eq_true_eq, Bool.not_eq_true', ← Bool.not_eq_true, List.any_eq_true]
  have hbit : ∀ c, (bef n (clo n ps) j).testBit c = (decide (c < n) && (clo n ps c).testBit j) := fun c => bef_bit hn _ j c (by omega) n (Nat.le_refl _)
  constructor
  · intro hne
    apply Nat.eq_of_testBit_eq
    intro c
    rw [Nat.testBit_and, hbit, Nat.zero_testBit]
    cases h1 : (clo n ps a).testBit c
    · rfl
    · cases h2 : (clo n ps c).testBit j
      · simp
      · exfalso; exact hne ⟨c, by simpa using (bd_clo hn h).bit h1, by rw [h1, h2]; rfl⟩
  · rintro h0 ⟨c, hc, hb⟩
    have := congrArg (fun x => Nat.testBit x c) h0
    simp only [Nat.testBit_and, hbit, Nat.zero_testBit] at this
    simp only [Bool.and_eq_true] at hb
    rw [hb.1, hb.2] at this
    simp at this hc
    omega

theorem ot_empty (w : World) : OT w.heap.size w (w.alloc (.cells #[] 44)) (.slice (some ⟨w.heap.size, 0, none⟩) 0 0) [] :=
  ⟨Nat.le_refl _, bel_alloc w _, rfl, .inr ⟨w.heap.size, 0, #[], rfl, Nat.le_refl _, heap_alloc_new w _, Nat.le_refl _, by unfold maxLen; omega, rfl, rfl⟩⟩

set_option maxRecDepth 100000 in
set_option maxHeartbeats 3200000 in
theorem rpairs_any (ao : Option Addr) (n cap : Nat) (M : Nat → Nat → Bool) (w : World) (h : RdG w (.slice ao n cap) n M) (hn : n ≤ 64) :
    Calls Tryd.prog 20 #[.slice ao n cap] w fun e w' => ∃ xo k c, e = .returned (.slice xo k c) ∧ TRd w' (.slice xo k c) (matp n M n) ∧ Below w.heap.size w w' := by
  have H := hid_of h
  have HN := hid_of hn
  have O0 := hid_of (ot_empty w)
  clear h
  go_enter Tryd.func20, Tryd.ntmps20
  go_wp2
  go_loopw [3, 4] (fun ov iv wr => ∃ (a : Nat) (xo : Option Addr) (k xc : Nat), a ≤ n ∧ iv = .int .i64 a ∧ ov = .slice xo k xc ∧ Hid (k = (matp n M a).length ∧ OT w.heap.size w wr (.slice xo k xc) (matp n M a))) (fun _ iv _ => n - (intOf iv).toNat)
  case atStart => exact ⟨0, _, 0, 0, Nat.zero_le _, rfl, rfl, hid_of ⟨rfl, O0.out⟩⟩
  case round =>
    obtain ⟨a, xo, k, xc, ha, rfl, rfl, hs⟩ := hrel
    by_cases hlt : a < n
    · have hd : decide (a < n) = true := by simp; omega
      obtain ⟨wo, hwo⟩ : ∃ wo : World, wo = wr := ⟨_, rfl⟩
      rw [← hwo] at hs ⊢
      clear hwo
      go_wp2
      go_loopw [3, 5] (fun ov iv wr => ∃ (b : Nat) (xo : Option Addr) (k xc : Nat), b ≤ n ∧ iv = .int .i64 b ∧ ov = .slice xo k xc ∧ Hid (k = (matp n M a ++ rowp M a b).length ∧ OT w.heap.size w wr (.slice xo k xc) (matp n M a ++ rowp M a b))) (fun _ iv _ => n - (intOf iv).toNat)
      case atStart => exact ⟨0, _, _, _, Nat.zero_le _, rfl, rfl, hid_of ⟨by rw [hs.out.1]; simp [rowp], by simpa [rowp] using hs.out.2⟩⟩
      case round =>
        clear hs
        obtain ⟨b, xo, k, xc, hb, rfl, rfl, hs⟩ := hrel
        by_cases hlt2 : b < n
        · have hd2 : decide (b < n) = true := by simp; omega
          obtain ⟨q, rfl, hq, hc⟩ := H.out.open (by omega)
          obtain ⟨g, hg, r1, r2⟩ := hc a hlt
          have r3 := (hs.out.2.bel.cell (p := ⟨g, b, none⟩) hg).trans (r2 b hlt2)
          have r4 := (hs.out.2.bel.cell (p := ⟨q, a, none⟩) hq).trans r1
          have b1 : (a : Int) < (n : Int) := by omega
          have b0 : (0 : Int) ≤ (a : Int) := by omega
          have b3 : (b : Int) < (n : Int) := by omega
          have b2 : (0 : Int) ≤ (b : Int) := by omega
          obtain ⟨t, ht⟩ : ∃ t, t = M a b := ⟨_, rfl⟩
          rw [← ht] at r3
          have HNX : Hid (matp n M a ++ rowp M a (b + 1) = addp t (matp n M a ++ rowp M a b) ((a : Int), (b : Int))) := hid_of (by rw [rowp_succ, ht])
          have HLN : Hid ((matp n M a ++ rowp M a b).length ≤ 10000) := hid_of (matp_len9 hn M ha hb)
          obtain ⟨L, hL⟩ : ∃ L, L = matp n M a ++ rowp M a b := ⟨_, rfl⟩
          rw [← hL] at hs HNX HLN
          clear hc r1 r2 ht hL
          cases t
          · go_wp2
            go_roundw
            case rel => exact ⟨b + 1, xo, k, xc, by omega, by go_num, rfl, hid_of (by rw [HNX.out]; exact hs.out)⟩
            case measure => simp [intOf]; omega
          · go_wp2_with (at_builtin; ((refine wpList_pr rfl _ _ rfl (v := .slice xo k xc) rfl hs.out.2 ((a : Int), (b : Int)) rfl (by have := HLN.out; omega) ?_); intro xo5 xn5 xc5 w5 hxn h5; have N5 := hid_of hxn; have O5 := hid_of h5; clear h5 hxn))
            go_roundw
            case rel => exact ⟨b + 1, xo5, xn5, xc5, by omega, by go_num, rfl, hid_of (by rw [HNX.out]; exact ⟨by rw [N5.out]; simp [addp], O5.out⟩)⟩
            case measure => simp [intOf]; omega
        · have hd2 : decide (b < n) = false := by simp; omega
          go_wp2
          go_roundw
          case rel => exact ⟨a + 1, xo, k, xc, by omega, by go_num, rfl, hid_of (by rw [matp_succ]; have := hs.out; rw [show b = n by omega] at this; exact this)⟩
          case measure => simp [intOf]; omega
    · have hd : decide (a < n) = false := by simp; omega
      have HE : Hid (TRd wr (.slice xo k xc) (matp n M n) ∧ Below w.heap.size w wr) := hid_of (by have := hs.out; rw [show a = n by omega] at this; exact ⟨this.2.rd, this.2.bel⟩)
      clear hs
      go_wp2
      go_ret
      exact ⟨xo, k, xc, rfl, HE.out.1, HE.out.2⟩
end Go.Proofs.YtjfjcgbdpjpodaaDoor
