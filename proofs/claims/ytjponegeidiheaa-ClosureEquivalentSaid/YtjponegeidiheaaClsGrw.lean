/- grow: names are added, and all that follow from them. Bounds on sizes alone. -/
import Derived.Test.YtjponegeidiheaaClsCnt
import Derived.Deep.LoopGhost
namespace Go.Proofs.Ytjponegeidiheaa
open Go.RowKit

theorem chg_un {S S1 S2 : Nat → Prop} {w w1 w2 : World} {ob : Nat} (h : Chg S S1 w w1) (h2 : Chg (orB S1 ob) (orB S2 ob) w1 w2) (hob : w.heap.size ≤ ob) : Chg S S2 w w2 := by
  refine ⟨⟨h2.kept.os.trans h.kept.os, h2.kept.tape.trans h.kept.tape, h2.kept.output.trans h.kept.output, Nat.le_trans h.kept.size h2.kept.size, fun k hk hs => ?_⟩, fun k hk => ?_⟩
  · rw [h2.kept.block k (Nat.lt_of_lt_of_le hk h.kept.size) (fun h1 => by
      rcases h1 with h1 | h1
      · rcases h.sub k h1 with h3 | h3
        · exact hs h3
        · omega
      · omega), h.kept.block k hk hs]
  · rcases h2.sub k (.inl hk) with h1 | h1
    · rcases h1 with h1 | h1
      · exact h.sub k h1
      · exact .inr (by omega)
    · exact .inr (Nat.le_trans h.kept.size h1)
/-- A round of grow. -/
def GrwI (w : World) (c n : Nat) (R : List Hrl) (off : Nat → Nat) (fl : Nat) (S0 : Nat → Prop) (T : List Nat) (l : List Nat) (V : CV) (S : Nat → Prop) (cb fb ob : Nat) (k : Nat) (g : Nat) (wr : World) : Prop :=
  ∃ Tj kj tv Sj okj, CH wr c n R (lackR R off (Tj.take kj)) (memB Tj) Tj kj { V with tv := tv } Sj ∧ Chg S Sj w wr ∧ wr.heap[cb]? = some (.cells #[.pointer (some ⟨c, 0, none⟩)] 76 (0, 0)) ∧ wr.heap[fb]? = some (.cells #[.int .i64 fl] 3 (0, 0)) ∧ wr.heap[ob]? = some (.cells #[.bool okj] 4 (0, 0)) ∧
    (¬ Sj cb ∧ ¬ Sj fb ∧ ¬ Sj ob) ∧ GI R off n fl S0 T Tj kj okj (fun _ => True) ∧ g + kj = n ∧ k ≤ kj ∧ (okj = true → ∀ x, x ∈ l → x ∈ Tj)
def GrowP (w : World) (c n : Nat) (R : List Hrl) (off : Nat → Nat) (fl : Nat) (S0 : Nat → Prop) (T : List Nat) (l : List Nat) (V : CV) (S : Nat → Prop) (k : Nat) (e : Ending) (w' : World) : Prop :=
  ∃ T' k' tv S' ok, e = .returned (.bool ok) ∧ CH w' c n R (lackR R off (T'.take k')) (memB T') T' k' { V with tv := tv } S' ∧ Chg S S' w w' ∧ GI R off n fl S0 T T' k' ok (fun _ => True) ∧ (ok = true → k' = T'.length ∧ ∀ x, x ∈ l → x ∈ T') ∧ k ≤ k'

set_option maxRecDepth 100000 in
set_option maxHeartbeats 1600000 in
theorem grow_any (c n fl k : Nat) (R : List Hrl) (off : Nat → Nat) (T : List Nat) (V : CV) (S : Nat → Prop) (l : List Nat) (lv : Value) (w : World) (h : CH w c n R (lackR R off (T.take k)) (memB T) T k V S) (hs : Sat R off T k) (hk : k ≤ T.length)
    (L : Rd w lv (ints l)) (hLS : ∀ g, lv.ownBlock = some g → ¬ S g) (hl : ∀ x ∈ l, x < n) (hfl : fl ≤ 1000000) (hn : n ≤ 1000000) (hR : ∀ i, off i ≤ 1) :
    Calls Try.prog 71 #[.pointer (some ⟨c, 0, none⟩), lv, .int .i64 fl] w (GrowP w c n R off fl (fun x => x ∈ T ∨ x ∈ l) T l V S k) := by
  obtain ⟨W2, hW2⟩ : ∃ W2, W2 = (w.alloc (.cells #[.pointer (some ⟨c, 0, none⟩)] 76)).alloc (.cells #[.int .i64 (fl : Int)] 3) := ⟨_, rfl⟩
  have B1 := bel_alloc w (.cells #[.pointer (some ⟨c, 0, none⟩)] 76)
  have B2 := bel_alloc (w.alloc (.cells #[.pointer (some ⟨c, 0, none⟩)] 76)) (.cells #[.int .i64 (fl : Int)] 3)
  have z1 : (w.alloc (.cells #[.pointer (some ⟨c, 0, none⟩)] 76)).heap.size = w.heap.size + 1 := by simp
  have B12 : Below w.heap.size w W2 := by rw [hW2]; exact B1.trans (B2.mono (by rw [z1]; omega))
  have z2 : W2.heap.size = w.heap.size + 1 + 1 := by rw [hW2]; simp
  have n1 : W2.heap[w.heap.size]? = some (.cells #[.pointer (some ⟨c, 0, none⟩)] 76 (0, 0)) := by
    rw [hW2, B2.block _ (by rw [z1]; omega)]; exact heap_alloc_new w _
  have n2 : W2.heap[w.heap.size + 1]? = some (.cells #[.int .i64 (fl : Int)] 3 (0, 0)) := by
    have := heap_alloc_new (w.alloc (.cells #[.pointer (some ⟨c, 0, none⟩)] 76)) (.cells #[.int .i64 (fl : Int)] 3)
    rw [z1] at this
    rw [hW2]; exact this
  have HPU := hid_of (put_any c n fl k R (lackR R off (T.take k)) T V S l lv W2 (h.at B12) (L.at B12) hLS hl hfl hn)
  have hsz : ∀ g, S g → g < w.heap.size := h.sz
  have HGS : Hid (∀ w1 b, PutP W2 c n R (lackR R off (T.take k)) T k V S fl l (.returned (.bool b)) w1 → GrwI w c n R off fl (fun x => x ∈ T ∨ x ∈ l) T l V S w.heap.size (w.heap.size + 1) w1.heap.size k (n - k) (w1.alloc (.cells #[.bool b] 4))) := hid_of (fun w1 b hp => by
    obtain ⟨tv, S', hb, q1, q2⟩ := hp
    simp only [Ending.returned.injEq, Value.bool.injEq] at hb
    subst hb
    have q3 := q1.at (bel_alloc w1 (.cells #[.bool (putF fl l T).2] 4))
    have q4 : Chg S' S' w1 (w1.alloc (.cells #[.bool (putF fl l T).2] 4)) := Chg.ofBelow (bel_alloc w1 _)
    have q5 : Chg S S w W2 := Chg.ofBelow B12
    have m1 : ¬ S w.heap.size := fun h5 => by have := hsz _ h5; omega
    have m2 : ¬ S (w.heap.size + 1) := fun h5 => by have := hsz _ h5; omega
    have m3 : ¬ S' w.heap.size := fun h5 => by
      rcases q2.sub _ h5 with h6 | h6
      · exact m1 h6
      · omega
    have m4 : ¬ S' (w.heap.size + 1) := fun h5 => by
      rcases q2.sub _ h5 with h6 | h6
      · exact m2 h6
      · omega
    have g0 := GI.start (fl := fl) (off := off) (R := R) h.nd h.tn hk hs hl
    obtain ⟨U, eU, _⟩ := putF_pre fl l T
    have eT : (putF fl l T).1.take k = T.take k := by rw [eU, List.take_append_of_le_length hk]
    refine ⟨(putF fl l T).1, k, tv, S', (putF fl l T).2, by rw [eT]; exact q3, (q5.trans q2).trans q4, q4.blk (q2.blk n1 m1) m3, q4.blk (q2.blk n2 m2) m4, heap_alloc_new w1 _, ⟨m3, m4, fun h5 => by have := q1.sz _ h5; omega⟩, g0, ?_, Nat.le_refl _, fun hb => putF_true fl l T hb⟩
    have := q1.len
    have := g0.kle
    omega)
  have hapart : ∀ (ob : Nat), w.heap.size ≤ ob → ∀ (i : Nat) (v : Value), V.ar[i]? = some v → ∀ g, v.ownBlock = some g → g ≠ ob := fun ob hob i v hv g hg => by
    have := ((h.ai i v hv).2 g hg).1; omega
  have HST : Hid (∀ ob g wr, w.heap.size + 1 < ob → GrwI w c n R off fl (fun x => x ∈ T ∨ x ∈ l) T l V S w.heap.size (w.heap.size + 1) ob k g wr → ∃ (okj : Bool) (kj lj : Nat) (ao : Option Addr) (ac : Nat), wr.cell? ⟨ob, 0, none⟩ = some (.bool okj) ∧ wr.cell? ⟨w.heap.size, 0, none⟩ = some (.pointer (some ⟨c, 0, none⟩)) ∧ wr.cell? ⟨c, 6, none⟩ = some (.int .i64 (kj : Int)) ∧ wr.cell? ⟨c, 5, none⟩ = some (.slice ao lj ac) ∧ kj ≤ lj ∧ lj ≤ n ∧
      (okj = true → kj = lj → GrowP w c n R off fl (fun x => x ∈ T ∨ x ∈ l) T l V S k (.returned (.bool true)) (wr.drewN 0) ∧ ∀ q, GrowP w c n R off fl (fun x => x ∈ T ∨ x ∈ l) T l V S k (.returned (.bool true)) (wr.drewN q)) ∧
      (okj = false → ∀ q, GrowP w c n R off fl (fun x => x ∈ T ∨ x ∈ l) T l V S k (.returned (.bool false)) (wr.drewN q)) ∧
      (kj < lj → 0 < g ∧ ∀ q, Calls Try.prog 79 #[.pointer (some ⟨c, 0, none⟩), .func (.func 87) #[] #[.pointer (some ⟨w.heap.size, 0, none⟩), .pointer (some ⟨w.heap.size + 1, 0, none⟩), .pointer (some ⟨ob, 0, none⟩)]] (wr.drewN q) fun e w' => e = .returned (.tuple #[]) ∧ GrwI w c n R off fl (fun x => x ∈ T ∨ x ∈ l) T l V S w.heap.size (w.heap.size + 1) ob k (g - 1) w')) := hid_of (fun ob g wr hob hi => by
    obtain ⟨Tj, kj, tv, Sj, okj, q1, q2, q3, q4, q5, ⟨m1, m2, m3⟩, q6, q7, q9, q8⟩ := hi
    obtain ⟨ao, ac, htv⟩ := q1.tvs
    have htv' : tv = .slice ao Tj.length ac := htv
    subst htv'
    have hd : ∀ q, Below wr.heap.size wr (wr.drewN q) := fun q => bel_drewN (Below.refl _ _) q
    refine ⟨okj, kj, Tj.length, ao, ac, blk_cell (cs := [.bool okj]) q5 rfl, blk_cell (cs := [.pointer (some ⟨c, 0, none⟩)]) q3 rfl, q1.cell (j := 6) rfl, q1.cell (j := 5) rfl, q6.kle, q1.len, fun ho he => ?_, fun ho q => ?_, fun hlt => ⟨by have := q1.len; omega, fun q => ?_⟩⟩
    · have : ∀ q, GrowP w c n R off fl (fun x => x ∈ T ∨ x ∈ l) T l V S k (.returned (.bool true)) (wr.drewN q) := fun q => ⟨Tj, kj, _, Sj, okj, by rw [ho], q1.at (hd q), q2.trans (Chg.ofBelow (hd q)), q6, fun hb => ⟨he, q8 hb⟩, q9⟩
      exact ⟨this 0, this⟩
    · exact ⟨Tj, kj, _, Sj, okj, by rw [ho], q1.at (hd q), q2.trans (Chg.ofBelow (hd q)), q6, (fun hb => by rw [ho] at hb; cases hb), q9⟩
    · obtain ⟨a, ha⟩ : ∃ a, Tj[kj]? = some a := ⟨_, List.getElem?_eq_getElem hlt⟩
      have dr : ∀ {b : Nat} {o : Obj}, wr.heap[b]? = some o → (wr.drewN q).heap[b]? = some o := fun hb => ((hd q).block _ ((Array.getElem?_eq_some_iff.1 hb).1)).trans hb
      refine (cnt_any c n fl kj a w.heap.size (w.heap.size + 1) ob R off _ T Tj _ Sj okj _ (q1.at (hd q)) ha q6 (dr q3) (dr q4) (dr q5) m1 m2 m3 ⟨by omega, by omega⟩ (hapart ob (by omega)) hfl hn hR).mono ?_
      rintro e w' ⟨rfl, T2, tv2, S2, ok2, p1, p2, p3, p4, p5, p6, U3, e3⟩
      have hz := (hd q).size
      have hwr := q2.kept.size
      have g0 := q6.kle
      have hsub : ∀ b, ¬ Sj b → b ≠ ob → b < (wr.drewN q).heap.size → ¬ S2 b := fun b hb he hbz h5 => by
        rcases p2.sub b (.inl h5) with h6 | h6
        · rcases h6 with h6 | h6
          · exact hb h6
          · exact he h6
        · omega
      have lt1 := lt_of_block (dr q3)
      have lt2 := lt_of_block (dr q4)
      refine ⟨rfl, T2, kj + 1, tv2, S2, ok2, p1, chg_un (q2.trans (Chg.ofBelow (hd q))) p2 (by omega), p2.blk (dr q3) (fun h5 => by rcases h5 with h5 | h5; exact m1 h5; omega), p2.blk (dr q4) (fun h5 => by rcases h5 with h5 | h5; exact m2 h5; omega), p3, ⟨hsub _ m1 (by omega) lt1, hsub _ m2 (by omega) lt2, p5⟩, p4, by have := q1.len; omega, by omega, fun hb x hx => ?_⟩
      rw [e3]; exact List.mem_append_left _ (q8 (p6 hb) x hx))
  obtain ⟨b, hb⟩ : ∃ b, b = (putF fl l T).2 := ⟨_, rfl⟩
  have HPB : Hid (Calls Try.prog 70 #[.pointer (some ⟨c, 0, none⟩), lv, .int .i64 fl] W2 fun e w' => e = .returned (.bool b) ∧ PutP W2 c n R (lackR R off (T.take k)) T k V S fl l (.returned (.bool b)) w') := hid_of (HPU.out.mono fun e w' h => by
    have h' := h
    obtain ⟨tv, S', rfl, h5, h6⟩ := h'
    rw [hb]
    exact ⟨rfl, h⟩)
  have HZ2 : Hid (∀ w1, PutP W2 c n R (lackR R off (T.take k)) T k V S fl l (.returned (.bool b)) w1 → w.heap.size + 1 < w1.heap.size) := hid_of (fun w1 hp => by
    obtain ⟨tv, S', _, q1, q2⟩ := hp
    have := q2.kept.size
    omega)
  clear HPU h hs hk L hLS hl hn hR hsz hapart n1 n2 B1 B2 B12 z1 z2 hb
  subst hW2
  go_enter Try.func71, Try.ntmps71
  go_wp2_with (go_at_call 70; ((with_reducible refine (HPB.out).mono ?_); (rintro e w1 ⟨rfl, h5⟩)); have HG0 := hid_of (HGS.out w1 b h5); have HZ1 := hid_of (HZ2.out w1 h5); clear h5)
  go_loopg [12] (n - k) (fun g xv wr => ∃ v : Value, xv = v ∧ Hid (GrwI w c n R off fl (fun x => x ∈ T ∨ x ∈ l) T l V S w.heap.size (w.heap.size + 1) w1.heap.size k g wr))
  case atStart => exact ⟨_, rfl, HG0⟩
  case round =>
    obtain ⟨v, rfl, hi⟩ := hrel
    obtain ⟨okj, kj, lj, ao, ac, e1, e2, e3, e4, e5, e6, e7, e8, e9⟩ := HST.out w1.heap.size gk wr HZ1.out hi.out
    have H7 := hid_of e7
    have H8 := hid_of e8
    have H9 := hid_of e9
    clear e7 e8 e9 hi HG0 HST HGS HZ2
    cases okj
    · have HN := hid_of (H8.out rfl)
      go_wp2
      go_quiet (fail)
      have hO := hid_of (HN.out nq)
      go_wp2
      go_ret
      exact hO.out
    · by_cases hlt : kj < lj
      · have hd : decide (kj < lj) = true := by simp; omega
        have hgk := (H9.out hlt).1
        have HC := hid_of (H9.out hlt).2
        go_wp2
        go_quiet (fail)
        have HC2 := hid_of (HC.out nq)
        go_wp2_with (go_at_call 79; ((with_reducible refine (HC2.out).mono ?_); (rintro e w2 ⟨rfl, h5⟩)); have HH := hid_of h5; clear h5)
        go_roundg (gk - 1)
        case measure => omega
        case rel => exact ⟨_, rfl, HH⟩
      · have hd : decide (kj < lj) = false := by simp; omega
        have HN := hid_of (H7.out rfl (by omega)).2
        go_wp2
        go_quiet (fail)
        have hO := hid_of (HN.out nq)
        go_wp2
        go_ret
        exact hO.out
end Go.Proofs.Ytjponegeidiheaa
