/- walk. Bounds on sizes alone. -/
import Derived.Test.YtjponegeidiheaaClsBel
import Derived.Laws.EntriesVeiled
namespace Go.Proofs.Ytjponegeidiheaa
open Go.RowKit

/-- All closed sets in lectic order. -/
def allS (R : List Hrl) (n : Nat) : List (List Nat) := (subs n 0).filter (cldB R)
theorem vv_all (R : List Hrl) (n : Nat) (T : List Nat) : VV R n T 0 = allS R n := by
  unfold VV allS
  have : mems T 0 = [] := by simp [mems]
  rw [this, Nat.sub_zero]
  simp
def WalP (c n : Nat) (R : List Hrl) (J : List (List Nat) → (Nat → Prop) → World → Prop) (ok : List (List Nat) → Bool) (V : CV) (U JS : Nat → Prop) (w : World) (e : Ending) (w' : World) : Prop :=
  e = .returned (.bool (prc ok [] (allS R n)).2) ∧ ∃ V' U' JS', Chg (orS U JS) (orS U' JS') w w' ∧ J (prc ok [] (allS R n)).1 JS' w' ∧ V'.ar = V.ar ∧
    ((prc ok [] (allS R n)).2 = true → ∃ T', CH w' c n R (lackR R (fun _ => 0) (T'.take T'.length)) (memB T') T' T'.length V' U' ∧ ∀ b, JS' b → ¬ U' b)

set_option maxRecDepth 100000 in
set_option maxHeartbeats 1600000 in
theorem wal_any (c n k gv : Nat) (R : List Hrl) (lbs : Array Value) (J : List (List Nat) → (Nat → Prop) → World → Prop) (ok : List (List Nat) → Bool) (N : Nat) (T : List Nat) (V : CV) (U JS : Nat → Prop) (w : World) (hn : n ≤ 1000000) (eg : ∀ args w, (callFunc gv args).run Try.prog w = .ok (.enter gv args) w)
    (hJ : ∀ d JS w w', J d JS w → (∀ b, JS b → w'.heap[b]? = w.heap[b]?) → w.heap.size ≤ w'.heap.size → J d JS w')
    (hV : ∀ vb cb bb d T V U JS w, d.length < N → cldB R T = true → St c n R vb cb bb gv lbs J d T V U JS w → Calls Try.prog gv lbs w fun e w' => e = .returned (.tuple #[.slice none 0 0, .bool (ok (d ++ [mems T n]))]) ∧ ∃ JS', J (d ++ [mems T n]) JS' w' ∧ Chg JS JS' w w' ∧ ∀ b, JS' b → b < w'.heap.size)
    (h : CH w c n R (lackR R (fun _ => 0) (T.take k)) (memB T) T k V U) (hk : k ≤ T.length) (hj : J [] JS w) (hjs : ∀ b, JS b → ¬ U b ∧ b < w.heap.size) (hab : ∀ (i : Nat) (v : Value), V.ar[i]? = some v → ∀ g, v.ownBlock = some g → ¬ JS g) (hN : (allS R n).length ≤ N) :
    Calls Try.prog 53 #[.pointer (some ⟨c, 0, none⟩), .func (.func gv) #[] lbs] w (WalP c n R J ok V U JS w) := by
  have hmf : ∀ (fn : Fn) (first cap : Array Value) (w : World), (Instr.makeFunc fn first cap).run Try.prog w = .ok (.func fn first cap) w := fun _ _ _ _ => rfl
  obtain ⟨W3, hW3⟩ : ∃ W3, W3 = ((w.alloc (.cells #[.pointer (some ⟨c, 0, none⟩)] 76)).alloc (.cells #[.func (.func gv) #[] lbs] 92)).alloc (.cells #[.func (.func 72) #[] #[.pointer (some ⟨w.heap.size + 1, 0, none⟩), .pointer (some ⟨w.heap.size, 0, none⟩), .pointer (some ⟨w.heap.size + 1 + 1, 0, none⟩)]] 103) := ⟨_, rfl⟩
  have h3 := three_new0 w (.cells #[.pointer (some ⟨c, 0, none⟩)] 76) (.cells #[.func (.func gv) #[] lbs] 92) (.cells #[.func (.func 72) #[] #[.pointer (some ⟨w.heap.size + 1, 0, none⟩), .pointer (some ⟨w.heap.size, 0, none⟩), .pointer (some ⟨w.heap.size + 1 + 1, 0, none⟩)]] 103)
  rw [← hW3] at h3
  obtain ⟨B3, n1, n2, n3⟩ := h3
  have ch3 := h.at B3
  have k1 : W3.cell? ⟨w.heap.size, 0, none⟩ = some (.pointer (some ⟨c, 0, none⟩)) := blk_cell (cs := [.pointer (some ⟨c, 0, none⟩)]) n1 rfl
  have HCL := hid_of (clo_any c n k R (fun _ => 0) T V U [] (.slice none 0 0) W3 ch3 hk ⟨none, 0, rfl, by simp [ints], by omega, fun h => by simp [ints] at h⟩ (fun g hg => by cases hg) (fun x hx => by simp at hx) hn (fun _ => by omega))
  have HST : Hid (∀ w4, CloP W3 c n R (fun _ => 0) [] V U (.returned (.tuple #[])) w4 → w4.cell? ⟨w.heap.size + 1 + 1, 0, none⟩ = some (.func (.func 72) #[] #[.pointer (some ⟨w.heap.size + 1, 0, none⟩), .pointer (some ⟨w.heap.size, 0, none⟩), .pointer (some ⟨w.heap.size + 1 + 1, 0, none⟩)]) ∧
      Calls Try.prog 72 #[.int .i64 0, .pointer (some ⟨w.heap.size + 1, 0, none⟩), .pointer (some ⟨w.heap.size, 0, none⟩), .pointer (some ⟨w.heap.size + 1 + 1, 0, none⟩)] w4 fun e w5 => e = .returned (.bool (prc ok [] (allS R n)).2) ∧ WalP c n R J ok V U JS w (.returned (.bool (prc ok [] (allS R n)).2)) w5) := hid_of (fun w4 hi => by
    obtain ⟨_, T', tv, U', q1, q2, q3⟩ := hi
    have hz : W3.heap.size = w.heap.size + 1 + 1 + 1 := by rw [hW3]; simp
    have hnU : ∀ b, w.heap.size ≤ b → ¬ U b := fun b hb hU => by have := h.sz b hU; omega
    have hsub : ∀ b, ¬ U b → b < W3.heap.size → ¬ U' b := fun b h1 h2 h5 => by
      rcases q2.sub b h5 with h6 | h6
      · exact h1 h6
      · omega
    have e1 := q2.blk n1 (hnU _ (Nat.le_refl _))
    have e2 := q2.blk n2 (hnU _ (by omega))
    have e3 := q2.blk n3 (hnU _ (by omega))
    have hjl : ∀ b, JS b → b < w.heap.size := fun b hb => (hjs b hb).2
    have hjq : ∀ b, JS b → w4.heap[b]? = w.heap[b]? := fun b hb => by
      rw [q2.kept.block b (by have := hjl b hb; omega) (hjs b hb).1, B3.block b (hjl b hb)]
    have st : St c n R (w.heap.size + 1) w.heap.size (w.heap.size + 1 + 1) gv lbs J [] T' { V with tv := tv } U' JS w4 := by
      refine ⟨q1, hJ [] JS w w4 hj hjq (by have := q2.kept.size; omega), fun b hb => ⟨hsub b (hjs b hb).1 (by have := hjl b hb; omega), by have := hjl b hb; have := q2.kept.size; omega⟩, hab, e2, e1, e3, fun b hb => ⟨hsub b (hnU b (by rcases hb with rfl | rfl | rfl <;> omega)) (by rcases hb with rfl | rfl | rfl <;> omega), fun hj2 => by have := hjl b hj2; rcases hb with rfl | rfl | rfl <;> omega⟩⟩
    have hgen : Gen R 0 T' := fun C hC _ x hx => der_least (C := fun x => x ∈ C) (cldB_iff.1 hC) (fun y hy => by simp at hy) ((q3 x).1 hx)
    refine ⟨blk_cell (cs := [.func (.func 72) #[] #[.pointer (some ⟨w.heap.size + 1, 0, none⟩), .pointer (some ⟨w.heap.size, 0, none⟩), .pointer (some ⟨w.heap.size + 1 + 1, 0, none⟩)]]) e3 rfl, ?_⟩
    refine (bel_any c n R (w.heap.size + 1) w.heap.size (w.heap.size + 1 + 1) gv lbs J ok N hn eg hJ (hV _ _ _) n 0 (by omega) (Nat.zero_le _) [] T' _ U' JS w4 st hgen (cld_of q3) (by rw [vv_all]; simpa using hN)).mono ?_
    rintro e w5 ⟨rfl, V2, U2, JS2, p1, p2, p3, p4⟩
    rw [vv_all] at p2 p4 ⊢
    refine ⟨rfl, rfl, V2, U2, JS2, ((Chg.ofBelow B3).trans (chg_l q2)).trans p1, p2, p3, fun h5 => ⟨T', (p4 h5).ch, fun b hb => ((p4 h5).ap b hb).1⟩⟩)
  obtain ⟨b, hb⟩ : ∃ b, b = (prc ok [] (allS R n)).2 := ⟨_, rfl⟩
  rw [← hb] at HST
  clear h hk hj hjs hab hN hV hJ ch3 n1 n2 n3 B3 hb
  subst hW3
  go_enter Try.func53, Try.ntmps53
  go_wp2_with (first
    | (go_at_call 47; ((with_reducible refine (HCL.out).mono ?_); (rintro e w4 h5; have h6 := h5.1; subst h6)); have H4 := hid_of (HST.out w4 h5); clear h5; have y4 := H4.out.1)
    | (go_at_call 72; ((with_reducible refine (H4.out.2).mono ?_); (rintro e w5 ⟨rfl, h5⟩)); have H5 := hid_of h5; clear h5))
  go_ret
  exact H5.out
end Go.Proofs.Ytjponegeidiheaa
