/- What grow does at a rule that lacks nothing: its closure. Bounds on sizes alone. -/
import Derived.Test.YtjponegeidiheaaClsPut
namespace Go.Proofs.Ytjponegeidiheaa
open Go.RowKit

/-- What the closure leaves: the conclusions are put; the flag in block ob is lowered if that failed. -/
def MetP (w : World) (c n : Nat) (R : List Hrl) (lk : Nat → Nat) (T : List Nat) (k : Nat) (V : CV) (S : Nat → Prop) (fl r ob : Nat) (ok : Bool) (e : Ending) (w' : World) : Prop :=
  ∃ tv S' w1, e = .returned (.tuple #[]) ∧ w' = w1.setCell ⟨ob, 0, none⟩ (.bool ((putF fl (conc R r) T).2 && ok)) ∧ CH w1 c n R lk (memB (putF fl (conc R r) T).1) (putF fl (conc R r) T).1 k { V with tv := tv } S' ∧ Chg S S' w w1

set_option maxRecDepth 100000 in
set_option maxHeartbeats 800000 in
theorem met_any (c n fl k r cb fb ob : Nat) (R : List Hrl) (lk : Nat → Nat) (T : List Nat) (V : CV) (S : Nat → Prop) (ok : Bool) (w : World) (h : CH w c n R lk (memB T) T k V S) (hr : r < R.length)
    (h1 : w.heap[cb]? = some (.cells #[.pointer (some ⟨c, 0, none⟩)] 76 (0, 0))) (h2 : w.heap[fb]? = some (.cells #[.int .i64 fl] 3 (0, 0))) (h3 : w.heap[ob]? = some (.cells #[.bool ok] 4 (0, 0)))
    (s1 : ¬ S cb) (s2 : ¬ S fb) (s3 : ¬ S ob) (hfl : fl ≤ 1000000) (hn : n ≤ 1000000) :
    Calls Try.prog 87 #[.int .i64 r, .pointer (some ⟨cb, 0, none⟩), .pointer (some ⟨fb, 0, none⟩), .pointer (some ⟨ob, 0, none⟩)] w (MetP w c n R lk T k V S fl r ob ok) := by
  have hd := h.at (w' := w.drew) (Below.refl _ _).drew
  obtain ⟨ao, ac, hav⟩ := own_shape h.ad
  have hlen : V.ar.length = R.length := by have := h.ad.1; omega
  obtain ⟨cv, hcv⟩ : ∃ cv, V.ar[r]? = some cv := ⟨_, List.getElem?_eq_getElem (by omega)⟩
  have hai := hd.ai r cv hcv
  have PU := put_any c n fl k R lk T V S (conc R r) cv w.drew hd hai.1 (fun g hg => (hai.2 g hg).2) (fun x hx => h.rn r x hr hx) hfl hn
  have c1 : w.cell? ⟨cb, 0, none⟩ = some (.pointer (some ⟨c, 0, none⟩)) := blk_cell (cs := [.pointer (some ⟨c, 0, none⟩)]) h1 rfl
  have c2 : w.cell? ⟨fb, 0, none⟩ = some (.int .i64 fl) := blk_cell (cs := [.int .i64 fl]) h2 rfl
  have c3 := h.cell (j := 2) rfl
  rw [hav] at c3
  have hao := h.ad
  rw [hav] at hao
  obtain ⟨g, rfl⟩ : ∃ g, ao = some ⟨g, 0, none⟩ := by
    rcases hao.2 with ⟨_, h5⟩ | ⟨g, _, _, h5, _⟩
    · omega
    · simp only [Value.slice.injEq] at h5; exact ⟨g, h5.1⟩
  have c4 := own_cell hao hcv
  have hRl : R.length ≤ 9223372036854775807 := by
    rcases own_shape2 hao with ⟨h5, _⟩ | ⟨_, _, h5, _, h6, h7⟩
    · cases h5
    · omega
  obtain ⟨m, hm⟩ : ∃ m, m = R.length := ⟨_, rfl⟩
  rw [← hm] at c3 hr hRl
  obtain ⟨b, hb⟩ : ∃ b, b = (putF fl (conc R r) T).2 := ⟨_, rfl⟩
  have HPU : Hid (Calls Try.prog 70 #[.pointer (some ⟨c, 0, none⟩), cv, .int .i64 fl] w.drew fun e w' => e = .returned (.bool b) ∧ PutP w.drew c n R lk T k V S fl (conc R r) (.returned (.bool b)) w') := hid_of (PU.mono fun e w' h => by
    have h' := h
    obtain ⟨tv, S', rfl, h5, h6⟩ := h'
    rw [hb]
    exact ⟨rfl, h⟩)
  have HF : Hid (∀ w1, PutP w.drew c n R lk T k V S fl (conc R r) (.returned (.bool b)) w1 → (w1.cell? ⟨ob, 0, none⟩ = some (.bool ok) ∧ w1.frozen? ⟨ob, 0, none⟩ = false) ∧ ∀ (e : Ending) (w' : World) (v : Value), e = .returned (.tuple #[]) → v = .bool (b && ok) → w' = w1.setCell ⟨ob, 0, none⟩ v → MetP w c n R lk T k V S fl r ob ok e w') := hid_of (fun w1 hp => by
    obtain ⟨tv, S', _, h5, h6⟩ := hp
    have h7 : w1.heap[ob]? = some (.cells #[.bool ok] 4 (0, 0)) := h6.blk h3 s3
    refine ⟨⟨blk_cell (cs := [.bool ok]) h7 rfl, blk_free (cs := [.bool ok]) h7 0⟩, fun e w' v he hv hw => ⟨tv, S', w1, he, by rw [hw, hv, hb], h5, ?_⟩⟩
    exact (Chg.ofBelow (Below.refl _ _).drew).trans h6)
  clear PU h hd hai hao hav hcv hlen h1 h2 h3 s1 s2 s3 hfl hn hm hb
  cases b
  all_goals
    go_enter Try.func87, Try.ntmps87
    go_wp2
    go_still_tail 9, (by kernel_rfl)
    change wpList _ _ _ _ _ w.drew
    go_wp2_with (go_at_call 70; ((with_reducible refine (HPU.out).mono ?_); (rintro e w1 ⟨rfl, h5⟩)); have HH := hid_of (HF.out w1 h5); clear h5; have q1 := HH.out.1.1; have q2 := HH.out.1.2)
    go_end0
    exact HH.out.2 _ _ _ rfl (by simp) rfl
end Go.Proofs.Ytjponegeidiheaa
