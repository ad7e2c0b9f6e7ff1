/- Lex: all tokens of a source. Bounds on sizes alone. -/
import Derived.Test.YtdmjlmlmdllhgaaDoorLexPlc
import Derived.Test.YtdmjlmlmdllhgaaDoorQdRow
namespace Go.Proofs.YtdmjlmlmdllhgaaDoor
open Go.RowKit

theorem tokE : Elem4 Tryd.prog 32 25 (.agg #[.int .i64 0, .string ⟨#[]⟩, .int .i64 0, .int .i64 0]) 40 := ⟨Tryd.underlying32, by kernel_rfl, rfl⟩
def tq (t : Tok) : QV := ⟨.int .i64 t.kind, .string t.text, .int .i64 t.n, .int .i64 t.place⟩
def tqs (l : List Tok) : List QV := l.map tq
/-- What Lex says: a code with a place, or tokens. -/
def LexQ (R : List Tok × Int × Nat) (w : World) (e : Ending) (w' : World) : Prop :=
  (R.2.1 ≠ 0 → e = .returned (.tuple #[.slice none 0 0, .agg #[.int .i64 R.2.1, .int .i64 R.2.2]]) ∧ Below w.heap.size w w') ∧
  (R.2.1 = 0 → ∃ xo xc, e = .returned (.tuple #[.slice xo R.1.length xc, .agg #[.int .i64 0, .int .i64 0]]) ∧ OQ 25 w.heap.size w w' (.slice xo R.1.length xc) (tqs R.1))
def LexP (s : ByteArray) (w : World) (e : Ending) (w' : World) : Prop := LexQ (Lx s 0) w e w'
theorem lexq_bad {R : List Tok × Int × Nat} {w w' : World} {cd : Int} {j : Nat} (hc : cd ≠ 0) (h : R = ([], cd, j)) (hb : Below w.heap.size w w') : LexQ R w (.returned (.tuple #[.slice none 0 0, .agg #[.int .i64 cd, .int .i64 j]])) w' := by
  subst h
  exact ⟨fun _ => ⟨rfl, hb⟩, fun h2 => absurd h2 hc⟩
theorem lexq_ok {R : List Tok × Int × Nat} {w w' : World} {xo : Option Addr} {n c : Nat} (h : R.2.1 = 0) (hn : n = R.1.length) (ho : OQ 25 w.heap.size w w' (.slice xo n c) (tqs R.1)) : LexQ R w (.returned (.tuple #[.slice xo n c, .agg #[.int .i64 0, .int .i64 0]])) w' := by
  subst hn
  exact ⟨fun h2 => absurd h h2, fun _ => ⟨xo, c, rfl, ho⟩⟩
theorem OQ.cong {E : TypeId} {B : Nat} {w0 w : World} {v : Value} {l m : List QV} (h : OQ E B w0 w v l) (e : l = m) : OQ E B w0 w v m := by subst e; exact h
theorem oq_row {E : TypeId} {B : Nat} {w0 w1 w : World} {v : Value} {l : List QV} {g : Nat} (h : OQ E B w1 w v l) (hb : Below g w0 w1) (hg : g < B) (h0 : g ≤ w0.heap.size) (hB : B = w1.heap.size) (cs : Array Value) : OQ E g w0 (w.setRow g cs) v l := by
  have h2 := h.start h0 hb (by omega)
  refine ⟨h0, bel_row h2.bel (Nat.le_refl _) cs, own_same h2.own fun k hk => setRow_other _ _ _ _ (by have := (h.own.lt k hk).1; omega)⟩
theorem row4' {w : World} {g t : Nat} {a b c d : Value} {m : Nat × Nat} (h : w.heap[g]? = some (.cells #[a, b, c, d] t m)) : w.cell? ⟨g, 0, none⟩ = some a := by simp [World.cell?, h]
theorem own_ne {E : TypeId} {B : Nat} {w0 w : World} {v : Value} {l : List QV} {g : Nat} (h : OQ E B w0 w v l) (hg : w.heap.size ≤ g) : some g ≠ v.ownBlock := fun e => by have := (h.own.lt g e.symm).2; omega
theorem three_lt (w : World) (o1 o2 o3 : Obj) : w.heap.size < (((w.alloc o1).alloc o2).alloc o3).heap.size := by simp; omega
theorem three_a (w : World) (a b c d : Value) (t : TypeId) (m : Nat × Nat) (o2 o3 : Obj) : (((w.alloc (.cells #[a, b, c, d] t m)).alloc o2).alloc o3).cell? ⟨w.heap.size, 0, none⟩ = some a :=
  (row4' (((bel_alloc ((w.alloc (.cells #[a, b, c, d] t m)).alloc o2) o3).block w.heap.size (by simp; omega)).trans (two_a w (.cells #[a, b, c, d] t m) o2)))
theorem qrd_at {w : World} {t : QV} {E : TypeId} {m : Nat × Nat} {g : Nat} (hg : g = w.heap.size) : QRd (w.alloc (.cells #[t.a, t.b, t.c, t.d] E m)) (.slice (some ⟨g, 0, none⟩) 1 1) [t] := by subst hg; exact qrd_new

set_option maxRecDepth 100000 in
set_option maxHeartbeats 1600000 in
theorem lex_any (s : ByteArray) (w : World) (hs : s.size ≤ 65536) (hG : Glob w) :
    Calls Tryd.prog 21 #[.string s] w (LexP s w) := by
  obtain ⟨R, hR⟩ : ∃ R, R = Lx s 0 := ⟨_, rfl⟩
  have HR : Hid (LexQ R w = LexP s w) := hid_of (by rw [hR]; rfl)
  rw [← HR.out]
  have HS := hid_of hs
  have HI1 := hid_of infoTok
  have HI2 := hid_of infoFlt
  have ZR : Hid ((w.alloc (.cells #[.int .i64 0, .int .i64 0] 28)).heap[w.heap.size]? = some (.cells #[.int .i64 0, .int .i64 0] 28 (0, 0))) := hid_of (heap_alloc_new w _)
  have ZB : Hid (Below w.heap.size w (w.alloc (.cells #[.int .i64 0, .int .i64 0] 28))) := hid_of (bel_alloc w _)
  have ZS : Hid ((w.alloc (.cells #[.int .i64 0, .int .i64 0] 28)).heap.size = w.heap.size + 1) := hid_of (by simp)
  have HGL : Hid (∀ w1, Below (w.heap.size + 1) (w.alloc (.cells #[.int .i64 0, .int .i64 0] 28)) w1 → Glob w1) := hid_of (fun w1 h => (hG.at ZB.out).bel h (by have := hG.eight; omega))
  have HST : Hid (pres [] (Lx s 0) = R) := hid_of (by
    have h := lx_ok s _ 0 rfl (Nat.zero_le _)
    rw [hR]; exact pres_nil _ (fun h2 => (h.2.1 h2).1) h.1)
  have HOK := hid_of (lx_ok s _ 0 rfl (Nat.zero_le _))
  rw [← hR] at HOK
  clear hR hG hs
  go_enter Tryd.func21, Tryd.ntmps21
  go_wp2
  go_loopw [4, 5] (fun tv av wr => ∃ (l : List Tok) (i : Nat) (ao : Option Addr) (n c : Nat), tv = .slice ao n c ∧ av = .int .i64 i ∧ Hid (i ≤ s.size) ∧ Hid (l.length ≤ i) ∧ Hid (n = l.length) ∧ Hid (pres l (Lx s i) = R) ∧ Hid (OQ 25 (w.heap.size + 1) (w.alloc (.cells #[.int .i64 0, .int .i64 0] 28)) wr (.slice ao n c) (tqs l))) (fun _ av _ => s.size - (intOf av).toNat)
  case atStart => exact ⟨[], 0, none, 0, 0, rfl, rfl, hid_of (Nat.zero_le _), hid_of (Nat.zero_le _), hid_of rfl, HST, hid_of (by rw [← ZS.out]; exact oq_nil _ _)⟩
  case round =>
    obtain ⟨l, i, ao, n, c, rfl, rfl, hi, hll, hn, hpr, how⟩ := hrel
    obtain ⟨g, hg⟩ : ∃ g, g = nextF s i := ⟨_, rfl⟩
    obtain ⟨j, hj⟩ : ∃ j, j = sk s i := ⟨_, rfl⟩
    have NX := hid_of (nex_any s i wr HS.out hi.out (HGL.out wr how.out.bel))
    rw [← hg, ← hj] at NX
    have HRW : Hid (∀ w1, Below wr.heap.size wr w1 → w1.heap[w.heap.size]? = some (.cells #[.int .i64 0, .int .i64 0] 28 (0, 0)) ∧ w.heap.size < w1.heap.size) := hid_of (fun w1 h => by
      have h0 := how.out.bel
      have h1 := how.out.size
      exact ⟨(h.block _ (by omega)).trans ((h0.block _ (by omega)).trans ZR.out), by have := h.size; omega⟩)
    by_cases hc : g.code = 0
    · have hcs : (nextF s i).code = 0 := by rw [← hg]; exact hc
      have HSX : Hid (∀ h : g.kind ≠ 6, pres (l ++ [⟨g.kind, g.text, g.n, j⟩]) (Lx s g.stop) = R ∧ i < g.stop ∧ g.stop ≤ s.size) := hid_of (fun h => by
        have hne : sk s i ≠ s.size := fun h2 => h (by rw [hg]; exact (next_six hi.out hcs).2 h2)
        have hst := next_stop hi.out hne hcs
        refine ⟨?_, by rw [hg]; exact hst.1, by rw [hg]; exact hst.2.2.1⟩
        have h3 := hpr.out
        rw [lx_tok hi.out hne hcs, pres_pre] at h3
        rw [hg, hj]; exact h3)
      have HSE : Hid (∀ h : g.kind = 6, R = (l ++ [⟨g.kind, g.text, g.n, j⟩], 0, 0)) := hid_of (fun h => by
        have he : sk s i = s.size := (next_six hi.out hcs).1 (by rw [← hg]; exact h)
        have h3 := hpr.out
        rw [lx_end he] at h3
        rw [← h3, hg, hj, next_end he, he]
        rfl)
      have NX : Hid (Calls Tryd.prog 19 #[.string s, .int .i64 i] wr fun e w1 => e = _ ∧ Below wr.heap.size wr w1) := hid_of (NX.out.mono fun e w1 h => ⟨h.1 hc, h.2.2⟩)
      obtain ⟨kd, tx, nn, st, cd⟩ := g
      dsimp only at NX HSX HSE
      clear hc hcs hg hj
      have K6 : Hid (∀ (hh : kd = 6), True) := hid_of (fun _ => trivial)
      by_cases hk : kd = 6
      · have dk : (kd == 6) = true := by rw [hk]; rfl
        have HE := hid_of (HSE.out hk)
        clear hk HSE HSX K6
        go_wp2_with (first
          | (go_at_call 19; ((with_reducible refine (NX.out).mono ?_); (rintro e w1 ⟨rfl, h1⟩; have B1 := hid_of h1; have O1 := hid_of ((how.out.later h1).later (bel_two w1 (.cells #[.int .i64 kd, .string tx, .int .i64 nn, .int .i64 j] 25) (.cells #[.int .i64 0, .int .i64 0] 28))); clear h1)))
          | (at_builtin; (refine wpList_qd tokE rfl (.tmp 20) (.tmp 22) rfl (v := .slice ao n c) (l := tqs l) rfl (O1.out.alloc _) (vx := .slice (some ⟨w1.heap.size + 2, 0, none⟩) 1 1) (m := [⟨.int .i64 kd, .string tx, .int .i64 nn, .int .i64 j⟩]) rfl (qrd_at (by simp)) (by intro u hu; simp [qds, QV.cs] at hu; rcases hu with rfl | rfl | rfl | rfl <;> rfl) (by have := hll.out; have := hi.out; have := HS.out; simp [tqs]; omega) (by have := hll.out; have := hi.out; have := HS.out; simp [tqs]; omega) ?_); intro xo6 n6 c6 w6 h5 h6 h7; have hn6 := hid_of h5; have O6 := hid_of h6; have WB := hid_of ((h6.bel.block w.heap.size (Nat.lt_succ_self _)).trans ZR.out); obtain ⟨e0, e1, g0, g1⟩ := row2 WB.out; have k0 := (h7.cell_far ⟨w1.heap.size, 0, none⟩ (three_lt _ _ _ _) (own_ne how.out B1.out.size)).trans (three_a _ _ _ _ _ _ _ _ _); clear h5 h6 h7))
        have L1 : Hid (Below w.heap.size w (w6.setRow w.heap.size #[.int .i64 0, .int .i64 0])) := hid_of (bel_row (ZB.out.trans (O6.out.bel.mono (by omega))) (Nat.le_refl _) _)
        have HN6 : Hid (n6 = R.1.length) := hid_of (by rw [HE.out, hn6.out]; simp [tqs])
        have O7 : Hid (OQ 25 w.heap.size w (w6.setRow w.heap.size #[.int .i64 0, .int .i64 0]) (.slice xo6 n6 c6) (tqs R.1)) := hid_of ((oq_row O6.out ZB.out (by omega) (by omega) (by rw [ZS.out]) #[.int .i64 0, .int .i64 0]).cong (by rw [HE.out]; simp [tqs, tq]))
        rw [set2 WB.out]
        refine bodyPost_ret (res_tc (cs := #[.int .i64 0, .int .i64 0]) rfl w.heap.size rfl (setRow_heap _ _ _ _ _ _ WB.out) Tryd.underlying28 rfl HI2.out) rfl ?_
        exact lexq_ok (by rw [HE.out]) HN6.out O7.out
      · have dk : (kd == 6) = false := by simpa using hk
        obtain ⟨h1, h2, h3⟩ := HSX.out hk
        have HP2 := hid_of h1
        have HI3 := hid_of h2
        have HI4 := hid_of h3
        clear hk HSE HSX K6 h1 h2 h3
        go_wp2_with (first
          | (go_at_call 19; ((with_reducible refine (NX.out).mono ?_); (rintro e w1 ⟨rfl, h1⟩; have B1 := hid_of h1; have O1 := hid_of ((how.out.later h1).later (bel_two w1 (.cells #[.int .i64 kd, .string tx, .int .i64 nn, .int .i64 j] 25) (.cells #[.int .i64 0, .int .i64 0] 28))); clear h1)))
          | (at_builtin; (refine wpList_qd tokE rfl (.tmp 20) (.tmp 22) rfl (v := .slice ao n c) (l := tqs l) rfl (O1.out.alloc _) (vx := .slice (some ⟨w1.heap.size + 2, 0, none⟩) 1 1) (m := [⟨.int .i64 kd, .string tx, .int .i64 nn, .int .i64 j⟩]) rfl (qrd_at (by simp)) (by intro u hu; simp [qds, QV.cs] at hu; rcases hu with rfl | rfl | rfl | rfl <;> rfl) (by have := hll.out; have := hi.out; have := HS.out; simp [tqs]; omega) (by have := hll.out; have := hi.out; have := HS.out; simp [tqs]; omega) ?_); intro xo6 n6 c6 w6 h5 h6 h7; have hn6 := hid_of h5; have O6 := hid_of h6; have WB := hid_of ((h6.bel.block w.heap.size (Nat.lt_succ_self _)).trans ZR.out); obtain ⟨e0, e1, g0, g1⟩ := row2 WB.out; have k0 := (h7.cell_far ⟨w1.heap.size, 0, none⟩ (three_lt _ _ _ _) (own_ne how.out B1.out.size)).trans (three_a _ _ _ _ _ _ _ _ _); clear h5 h6 h7))
        go_roundw
        case rel => exact ⟨_, st, xo6, n6, c6, rfl, rfl, HI4, hid_of (by have := HI3.out; have := hll.out; simp; omega), hid_of (by rw [hn6.out]; simp [tqs]), HP2, hid_of (O6.out.cong (by simp [tqs, tq]))⟩
        case measure => have := HI3.out; have := HI4.out; simp [intOf]; omega
    · have NX : Hid (Calls Tryd.prog 19 #[.string s, .int .i64 i] wr fun e w1 => e = _ ∧ Below wr.heap.size wr w1) := hid_of (NX.out.mono fun e w1 h => ⟨h.2.1 hc, h.2.2⟩)
      have HE : Hid (R = ([], g.code, j)) := hid_of (by
        have hcs : (nextF s i).code ≠ 0 := by rw [← hg]; exact hc
        have h3 := hpr.out
        rw [lx_bad hcs, pres, if_pos hcs] at h3
        rw [← h3, hg, hj])
      obtain ⟨kd, tx, nn, st, cd⟩ := g
      dsimp only at NX HE hc
      have d0 : (cd != 0) = true := by simpa using hc
      have HC := hid_of hc
      clear hc hg hj
      go_wp2_with (go_at_call 19; ((with_reducible refine (NX.out).mono ?_); (rintro e w1 ⟨rfl, h1⟩; have B1 := hid_of h1; clear h1)))
      obtain ⟨ra, rb⟩ := HRW.out w1 B1.out
      have B3 : Hid (Below w1.heap.size w1 ((w1.alloc (.cells #[.int .i64 0, .string ⟨#[]⟩, .int .i64 0, .int .i64 0] 25)).alloc (.cells #[.int .i64 cd, .int .i64 j] 28))) := hid_of (bel_two _ _ _)
      have WB := hid_of ((B3.out.block w.heap.size rb).trans ra)
      have U3 : Hid (((w1.alloc (.cells #[.int .i64 0, .string ⟨#[]⟩, .int .i64 0, .int .i64 0] 25)).alloc (.cells #[.int .i64 cd, .int .i64 j] 28)).heap[w1.heap.size + 1]? = some (.cells #[.int .i64 cd, .int .i64 j] 28 (0, 0))) := hid_of (two_b _ _ _)
      have LB : Hid (Below w.heap.size w ((w1.alloc (.cells #[.int .i64 0, .string ⟨#[]⟩, .int .i64 0, .int .i64 0] 25)).alloc (.cells #[.int .i64 cd, .int .i64 j] 28))) := hid_of (ZB.out.trans ((how.out.bel.mono (by omega)).trans ((B1.out.mono (by have := how.out.size; omega)).trans (B3.out.mono (by omega)))))
      have n3 : ¬ w.heap.size = w1.heap.size + 1 := by omega
      clear ra rb
      generalize ((w1.alloc (.cells #[.int .i64 0, .string ⟨#[]⟩, .int .i64 0, .int .i64 0] 25)).alloc (.cells #[.int .i64 cd, .int .i64 j] 28)) = w3 at *
      obtain ⟨e0, e1, g0, g1⟩ := row2 WB.out
      obtain ⟨t0, t1, _, _⟩ := row2 U3.out
      go_region
      go_wp2
      rw [set2 WB.out]
      refine bodyPost_ret (res_tc (cs := #[.int .i64 cd, .int .i64 j]) rfl w.heap.size rfl (setRow_heap _ _ _ _ _ _ WB.out) Tryd.underlying28 rfl HI2.out) rfl ?_
      exact lexq_bad HC.out HE.out (bel_drew (bel_row LB.out (Nat.le_refl _) _))
end Go.Proofs.YtdmjlmlmdllhgaaDoor
