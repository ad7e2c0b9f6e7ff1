/- Texts in one: DsLw6, DgU6. -/
import Derived.Test.YteceljhhhbmemaaMgTC
import Derived.StillTailTactics
set_option linter.unusedVariables false
set_option linter.unusedSimpArgs false
/- The law Atomic. Bounds on sizes alone. -/
namespace Go.Proofs.Yteceljhhhbmemaa
open Go.RowKit
set_option maxRecDepth 100000
set_option maxHeartbeats 12800000

theorem slE3 : Elem Try.prog 45 39 (.slice none 0 0) 24 := ⟨Try.underlying45, by kernel_rfl, rfl⟩
/-- The rows of rows are those of M. -/
def LM (n : Nat) (M : DM) (ls : List (List (List Int))) : Prop := ls.length = n ∧ ∀ s, s < n → ls[s]? = some (mayF M s)
theorem LM.of {n : Nat} {M N : DM} {ls : List (List (List Int))} (h : LM n M ls) (e : ∀ s, mayF N s = mayF M s) : LM n N ls := ⟨h.1, fun s hs => by rw [e]; exact h.2 s hs⟩
theorem op_cells {X : World} {lb : Nat} {k s : Int} {vb vk : Value} {wr : World} (e : lb = wr.heap.size) (h : X.heap[lb]? = (wr.alloc (.cells #[.int .i64 k, .int .i64 s, vb, vk] 37)).heap[lb]?) : X.cell? ⟨lb, 0, none⟩ = some (.int .i64 k) ∧ X.cell? ⟨lb, 1, none⟩ = some (.int .i64 s) ∧ X.cell? ⟨lb, 2, none⟩ = some vb := by
  subst e
  have hb : X.heap[wr.heap.size]? = some (.cells [.int .i64 k, .int .i64 s, vb, vk].toArray 37 (0, 0)) := h.trans (heap_alloc_new wr _)
  exact ⟨cell_blk hb rfl, cell_blk hb rfl, cell_blk hb rfl⟩
/-- The rows before the first round, and a round of the first loop. -/
theorem ia_start {I : PI} {w w1 w2 : World} {b n : Nat} {M : DM} (hw : w.heap.size ≤ w1.heap.size) (hd : I.DS (fun k => w1.heap.size ≤ k ∧ k < w2.heap.size) w2 b M) (hb : Below w1.heap.size w1 w2) : IA I w.heap.size w1 b w2.heap.size (w2.alloc (.cells (madeCells #[.slice none 0 0] n) 39)) M (List.replicate n []) (List.replicate n (.slice none 0 0)) := by
  have ba := bel_alloc w2 (.cells (madeCells #[.slice none 0 0] n) 39)
  have hs := hb.size
  refine ⟨_, fun k => k = w2.heap.size, fun k => k < w.heap.size, I.keep hd (keeps_belw ba), fun k hk => ⟨hk.1, Nat.lt_of_lt_of_le hk.2 ba.size⟩, ⟨rfl, ?_, by simp, ?_, ?_, fun k hk hz => by omega, fun k hk => by rw [hk]; simp, fun k hk => by simp; omega⟩, fun k hk => by omega, fun k hk hp => by omega, fun k hk => hk, hw, hb.trans (ba.mono hb.size)⟩
  · refine (heap_alloc_new w2 _).trans ?_
    congr 2
    rw [← Array.toList_inj]
    simp [toList_madeCells_one]
  · intro i v l h1 h2
    have h3 := List.getElem?_eq_some_iff.1 h1
    have h4 := List.getElem?_eq_some_iff.1 h2
    obtain ⟨_, h3⟩ := h3
    obtain ⟨_, h4⟩ := h4
    simp at h3 h4
    exact Or.inl ⟨h3.symm, h4⟩
  · intro i k v u g h1 _ hg
    obtain ⟨_, h3⟩ := List.getElem?_eq_some_iff.1 h1
    simp at h3
    rw [← h3] at hg; cases hg
theorem ia_first {I : PI} {B0 : Nat} {w1 wr : World} {b gm i z : Nat} {M : DM} {ls : List (List (List Int))} {vs : List Value} (h : IA I B0 w1 b gm wr M ls vs) (hi : i < ls.length) (hz : z ≤ 4096) {W : World} (hW : W = (wr.alloc (.cells (madeCells #[.int .u8 0] z) 5)).alloc (.cells #[.slice (some ⟨wr.heap.size, 0, none⟩) z z] 32)) :
    IA I B0 w1 b gm (W.setCell ⟨gm, i, none⟩ (.slice (some ⟨wr.heap.size + 1, 0, none⟩) 1 1)) M (ls.set i [List.replicate z 0]) (vs.set i (.slice (some ⟨wr.heap.size + 1, 0, none⟩) 1 1)) := by
  have h2 := h.alloc (.cells (madeCells #[.int .u8 0] z) 5)
  have rm := Rf.rd_made wr z hz
  obtain ⟨P, T, Z, h1, p2, h3, h4, h5, h6, h7, h8⟩ := h
  have ba := bel_alloc wr (.cells (madeCells #[.int .u8 0] z) 5)
  have hA : IA I B0 w1 b gm (wr.alloc (.cells (madeCells #[.int .u8 0] z) 5)) M ls vs := h2
  clear h2
  have m3 := (h3.keep (keeps_belw ba)).zmono (Z' := fun k => Z k ∨ k = wr.heap.size) (fun k hk => Or.inl hk) (fun k hk hz => by
    rcases hz with hz | hz
    · exact h3.dis k hk hz
    · have := h3.tl k hk; omega) (fun k hk => by
    rcases hk with hk | hk
    · have := h3.zl k hk; simp; omega
    · rw [hk]; simp)
  obtain ⟨v, l, hv, hl, _⟩ := m3.get hi
  have ha2 := heap_alloc_new (wr.alloc (.cells (madeCells #[.int .u8 0] z) 5)) (.cells #[.slice (some ⟨wr.heap.size, 0, none⟩) z z] 32)
  have b2 := bel_alloc (wr.alloc (.cells (madeCells #[.int .u8 0] z) 5)) (.cells #[.slice (some ⟨wr.heap.size, 0, none⟩) z z] 32)
  have hs1 : (wr.alloc (.cells (madeCells #[.int .u8 0] z) 5)).heap.size = wr.heap.size + 1 := by simp
  rw [hs1] at ha2
  have gr : (wr.alloc (.cells (madeCells #[.int .u8 0] z) 5)).grownBy W none := by
    subst hW
    exact ⟨b2.os, b2.tape, b2.output, b2.size, fun k hk _ => b2.block k hk⟩
  have oo : OO 32 W (wr.heap.size + 1) 0 1 [.slice (some ⟨wr.heap.size, 0, none⟩) z z] := by
    subst hW
    exact ⟨[.slice (some ⟨wr.heap.size, 0, none⟩) z z], ha2, by simp, by unfold maxLen; omega, by simp, fun j u hu => by rwa [Nat.zero_add]⟩
  have st := m3.step hv hl (Or.inl rfl) gr (l' := [List.replicate z 0]) (n' := 1) rfl (Or.inr hs1.symm) oo rfl (fun j u c hu hc => by
    have hj : j = 0 := by have := (List.getElem?_eq_some_iff.1 hu).1; simp at this; omega
    subst hj
    simp only [List.getElem?_cons_zero, Option.some.injEq] at hu hc
    subst hu hc
    exact ⟨rm, fun _ a n c e => by cases e; exact Or.inr rfl⟩)
  have hsz : W.heap.size = wr.heap.size + 2 := by subst hW; simp
  have bW : Below wr.heap.size wr W := by subst hW; exact ba.trans (b2.mono (by omega))
  refine ⟨P, _, _, I.keep h1 ⟨by have := bW.size; simpa using this, fun k hk hl => (set_blk (fun e : gm = k => (h4 gm h3.tg).2 (by rw [e]; exact hk))).trans (bW.block k hl)⟩, fun k hk => ⟨(p2 k hk).1, by have := (p2 k hk).2; simp; omega⟩, st, fun k hk => ?_, fun k hk hp => ?_, fun k hk => Or.inl (h6 k hk), h7, (h8.trans (bW.mono h8.size)).setCell (h4 gm h3.tg).1 _⟩
  · rcases hk.1 with h | h
    · exact h4 k h
    · exact ⟨by have := h8.size; omega, fun hp => by have := (p2 k hp).2; omega⟩
  · rcases hk with h | h
    · exact h5 k h hp
    · have := (p2 k hp).2; omega
theorem atomic_law (I : PI) (sc sz : Int) (a : Option Addr) (len cap : Nat) (l : List OpX) (ak : Option Addr) (lk ck : Nat) (kp : List Bool) (w : World) (w0 : (Lit.int .i64 sc).wf = true) (w1 : (Lit.int .i64 sz).wf = true) (w2 : OpsIn w a len cap l) (w5 : Rd w (.slice ak lk ck) (bls kp)) :
    Calls Try.prog 5 #[.int .i64 sc, .int .i64 sz, .slice a len cap, .slice ak lk ck] w (BoP true w) := by
  clear w0 w1
  have AW := hid_of (fun w => awake_any I w)
  have SM := hid_of (fun w => small_any sc sz a len cap w)
  by_cases hs : smallB sc sz len = true
  case neg =>
    rw [show smallB sc sz len = false by simpa using hs] at SM
    clear hs w2
    go_enter Try.func5, Try.ntmps5
    go_wp2_with (first
      | (go_at_call 9; ((with_reducible refine (AW.out _).mono ?_); (rintro e w1 ⟨rfl, h1⟩); (have E1 := hid_of h1); clear h1))
      | (go_at_call 10; ((with_reducible refine (SM.out w1).mono ?_); (rintro e w2 ⟨rfl, rfl⟩))))
    go_ret
    exact ⟨rfl, E1.out⟩
  rw [hs] at SM
  obtain ⟨hs1, hs2, hs3⟩ := smallB_true hs
  obtain ⟨n, rfl⟩ : ∃ n : Nat, sc = n := ⟨sc.toNat, by omega⟩
  obtain ⟨z, rfl⟩ : ∃ z : Nat, sz = z := ⟨sz.toNat, by omega⟩
  have HIN := hid_of (fun (X : World) (h : Below w.heap.size w X) => w2.at h)
  have HIW := hid_of w2
  have HRK := hid_of w5
  have hlc := (w2.2.1.cut).2
  have CN := hid_of (fun X => I.newY n z (by omega) (by omega) (by omega) (by omega) X)
  have hn8 : n ≤ 8 := by omega
  have hz4 : z ≤ 40 := by omega
  have MZ := run_make_row' (P := Try.prog) 45 39 (.slice none 0 0) 24 slE3.und slE3.info rfl .i64 .i64 n (by omega) (by omega)
  have MK := run_make_row' (P := Try.prog) 32 5 (.int .u8 0) 1 u8E.und u8E.info rfl .i64 .i64 z (by omega) (by omega)
  clear hs hs1 hs2 w2 w5
  go_enter Try.func5, Try.ntmps5
  go_wp2_with (first
    | (go_at_call 9; ((with_reducible refine (AW.out _).mono ?_); (rintro e w1 ⟨rfl, h1⟩); (have E1 := hid_of h1); clear h1))
    | (go_at_call 10; ((with_reducible refine (SM.out w1).mono ?_); (rintro e w9 ⟨rfl, rfl⟩)))
    | (go_at_call 11; ((with_reducible refine (CN.out w1).mono ?_); (rintro e w2 ⟨b, rfl, q1, q2⟩)); have D2 := hid_of (ia_start (n := n) E1.out.size q1 q2); clear q1 q2))
  obtain ⟨gm, hgm⟩ : ∃ gm, gm = w2.heap.size := ⟨_, rfl⟩
  rw [← hgm] at D2 ⊢
  clear hgm
  go_loopw [12] (fun iv wr => ∃ (i : Nat) (ls : List (List (List Int))) (vs : List Value), i ≤ n ∧ iv = .int .i64 i ∧ Hid (ls.length = n ∧ ∀ s, s < i → ls[s]? = some [List.replicate z 0]) ∧ Hid (IA I w.heap.size w1 b gm wr (newF n z) ls vs)) (fun iv _ => n - (intOf iv).toNat)
  case atStart => exact ⟨0, _, _, Nat.zero_le _, rfl, hid_of ⟨by simp, fun s hs => by omega⟩, D2⟩
  case round =>
    obtain ⟨i, ls, vs, hi, rfl, hL, hA⟩ := hrel
    by_cases hlt : i < n
    · have hdd : decide (i < n) = true := by simpa using hlt
      have hdi : decide ((i : Int) < (n : Int)) = true := by simp; omega
      have hin : (i : Int) < (n : Int) := by omega
      have FI := hid_of (ia_first hA.out (i := i) (by rw [hL.out.1]; exact hlt) (z := z) (by omega) rfl)
      obtain ⟨v, l0, -, -, -, c0, f0, -⟩ := ((hA.out.alloc (.cells (madeCells #[.int .u8 0] z) 5)).alloc (.cells #[.slice (some ⟨wr.heap.size, 0, none⟩) z z] 32)).outer (i := i) (by rw [hL.out.1]; exact hlt)
      go_wp2
      go_roundw
      case rel => exact ⟨i + 1, _, _, by omega, by go_num, hid_of ⟨by rw [List.length_set]; exact hL.out.1, fun s hs => by
        by_cases e : s = i
        · subst e; rw [List.getElem?_set_self (by rw [hL.out.1]; exact hlt)]
        · rw [List.getElem?_set_ne (Ne.symm e)]; exact hL.out.2 s (by omega)⟩, FI⟩
      case measure => simp [intOf]; omega
    · obtain rfl : n = i := by omega
      have hdd : decide (n < n) = false := by simp
      have HLM : Hid (LM n (newF n z) ls) := hid_of ⟨hL.out.1, fun s hs => by rw [may_new n z s hs]; exact hL.out.2 s hs⟩
      go_wp2
      go_loopw [13, 14, 15] (fun iv v14 v15 wr => ∃ (j : Nat) (M : DM) (ls : List (List (List Int))) (vs : List Value), j ≤ len ∧ iv = .int .i64 j ∧ Hid (M.cache.length ≤ j ∧ M.secs.length = n) ∧ Hid (LM n M ls) ∧ Hid (IA I w.heap.size w1 b gm wr M ls vs)) (fun iv _ _ _ => len - (intOf iv).toNat)
      case atStart => exact ⟨0, _, _, _, Nat.zero_le _, rfl, hid_of ⟨Nat.le_refl _, by simp [newF]⟩, HLM, hA⟩
      clear HLM hA hL hlt
      case round =>
        obtain ⟨j, M, ls, vs, hj, rfl, hM, hL, hA⟩ := hrel
        by_cases hlt : j < len
        · have hdd : decide (j < len) = true := by simpa using hlt
          have EW := hid_of (E1.out.trans (hA.out.bel.mono E1.out.size))
          obtain ⟨x, hx, hxr⟩ := HIW.out.getB hlt
          obtain ⟨g, o, rfl, k0, k1, k2, k3⟩ := (HIN.out wr EW.out).cells hx
          clear hx
          obtain ⟨xk, xs, vb, vk, xl, xkp⟩ := x
          obtain ⟨rk, rs, rb, rkp⟩ := hxr
          simp only at rk rs rb rkp k0 k1 k2 k3
          obtain ⟨ba, bc, rfl⟩ : ∃ a c, vb = .slice a xl.length c := by obtain ⟨a, c, e, _⟩ := rb; rw [by8_length] at e; exact ⟨a, c, e⟩
          obtain ⟨ka, kc, rfl⟩ : ∃ a c, vk = .slice a xkp.length c := by obtain ⟨a, c, e, _⟩ := rkp; rw [bls_length] at e; exact ⟨a, c, e⟩
          obtain ⟨bn, hbn⟩ : ∃ bn, bn = xl.length := ⟨_, rfl⟩
          obtain ⟨kn, hkn⟩ : ∃ kn, kn = xkp.length := ⟨_, rfl⟩
          rw [← hbn] at rb k2
          rw [← hkn] at rkp k3
          have c0 := op_cells (X := wr.alloc (.cells #[.int .i64 xk, .int .i64 xs, .slice ba bn bc, .slice ka kn kc] 37)) (wr := wr) rfl rfl
          obtain ⟨c00, c01, c02⟩ := c0
          have HRB := hid_of (And.intro rb hbn)
          by_cases hk : xk = 0
          · subst hk
            have HP : Hid ((playF M ⟨0, xs, .slice ba bn bc, .slice ka kn kc, xl, xkp⟩).2 = (writeF M xs xl).2) := hid_of rfl
            have HM2 : Hid ((writeF M xs xl).2.cache.length ≤ j + 1 ∧ (writeF M xs xl).2.secs.length = n) := hid_of (by rw [← HP.out]; exact ⟨by have := playF_cache M ⟨0, xs, .slice ba bn bc, .slice ka kn kc, xl, xkp⟩; have := hM.out.1; omega, by rw [(playF_dim M _).2]; exact hM.out.2⟩)
            have CW := hid_of (hA.out.write wr.heap.size (.cells #[.int .i64 0, .int .i64 xs, .slice ba bn bc, .slice ka kn kc] 37) rfl rs (by have := hM.out.1; omega) (rb.at (EW.out.trans ((bel_alloc wr _).mono EW.out.size))) (fun h0 => rb.inlt (by rwa [by8_length])))
            by_cases hw : (writeF M xs xl).1 = 0
            · rw [hw] at CW
              obtain ⟨⟨hf1, hf2⟩, hmay⟩ := may_write hw
              have HMAY := hid_of hmay
              clear hmay hw HP
              obtain ⟨s, rfl⟩ : ∃ s : Nat, xs = s := ⟨xs.toNat, by omega⟩
              rw [hM.out.2] at hf2
              have hsn : s < n := by omega
              have e0 : decide ((s : Int) < 0) = false := decide_eq_false (by omega)
              have e1 : decide ((s : Int) ≥ (n : Int)) = false := decide_eq_false (by omega)
              have e1' : decide ((n : Int) ≤ (s : Int)) = false := decide_eq_false (by omega)
              have e1'' : decide (n ≤ s) = false := decide_eq_false (by omega)
              clear rk rs rb rkp hbn hkn
              go_wp2_with (go_at_call 22; ((with_reducible refine (CW.out).mono ?_); (rintro e w5 ⟨rfl, q1, q2⟩)); have A5 := hid_of q1; have q3 := op_cells rfl q2; have LC5 := hid_of q2; obtain ⟨c50, c51, c52⟩ := q3; clear q1 q2)
              obtain ⟨W, hW⟩ : ∃ W, W = (w5.alloc (.cells #[.slice ba bn bc] 32)).drew := ⟨_, rfl⟩
              have AW5 := hid_of (show IA I w.heap.size w1 b gm W (writeF M s xl).2 ls vs from by rw [hW]; exact (A5.out.alloc (.cells #[.slice ba bn bc] 32)).drew)
              obtain ⟨v, l0, hv, hl0, -, cW, -, hsh⟩ := AW5.out.outer (i := s) (by rw [hL.out.1]; exact hsn)
              have hl1 : l0 = mayF M s := by have h9 := hL.out.2 s hsn; rw [hl0] at h9; exact Option.some.inj h9
              have hpos := mayF_pos M s
              have hmle := mayF_len M s
              rcases hsh with ⟨_, e⟩ | ⟨g2, o2, cap2, us, rfl, oo, hul, -⟩
              · rw [hl1] at e; rw [e] at hpos; exact absurd hpos (by simp)
              obtain ⟨m, hm⟩ : ∃ m, m = l0.length := ⟨_, rfl⟩
              rw [← hm] at hv cW hul
              have HVL := hid_of (And.intro hv (And.intro hl0 (And.intro hl1 (And.intro hm hul))))
              have hmb : m + 1 ≤ 1000000 := by have h9 := hM.out.1; rw [← hl1, ← hm] at hmle; omega
              have c5g := cell_blk A5.out.box hv
              have S5 := hid_of (Rf.src_sl w5 (.slice ba bn bc) rfl)
              rw [← hW] at S5
              have OO5 := hid_of oo
              have sz5 : (w5.alloc (.cells #[.slice ba bn bc] 32)).heap.size = w5.heap.size + 1 := by simp
              have hlb5 : w5.heap[wr.heap.size]? = some (.cells [.int .i64 0, .int .i64 s, .slice ba bn bc, .slice ka kn kc].toArray 37 (0, 0)) := LC5.out.trans (heap_alloc_new wr _)
              have hlt5 : wr.heap.size < w5.heap.size := (Array.getElem?_eq_some_iff.1 hlb5).1
              have hlbW : W.heap[wr.heap.size]? = some (.cells [.int .i64 0, .int .i64 s, .slice ba bn bc, .slice ka kn kc].toArray 37 (0, 0)) := by rw [hW]; exact ((bel_alloc w5 _).block _ hlt5).trans hlb5
              have hne : ∀ q, q = g2 → wr.heap.size ≠ q := fun q hq e => by
                obtain ⟨cur, h9, _⟩ := oo
                rw [← hq, ← e, hlbW] at h9
                simp only [Option.some.injEq, Obj.cells.injEq] at h9
                exact absurd h9.2.1 (by decide)
              have hszW : wr.heap.size < W.heap.size := (Array.getElem?_eq_some_iff.1 hlbW).1
              have HP : Hid (∀ (g' o' cap' : Nat) (w7 : World), OO 32 w7 g' o' cap' (us ++ [.slice ba bn bc]) → W.grownBy w7 (some g2) → (g' = g2 ∨ g' = W.heap.size) →
                  (IA I w.heap.size w1 b gm (w7.setCell ⟨gm, s, none⟩ (.slice (some ⟨g', o', none⟩) (m + 1) cap')) (writeF M s xl).2 (ls.set s (mayF M s ++ [xl])) (vs.set s (.slice (some ⟨g', o', none⟩) (m + 1) cap'))) ∧ (w7.cell? ⟨wr.heap.size, 1, none⟩ = some (.int .i64 s) ∧ w7.cell? ⟨gm, s, none⟩ = some (.slice (some ⟨g2, o2, none⟩) m cap2) ∧ w7.frozen? ⟨gm, s, none⟩ = false) ∧ (w7.setCell ⟨gm, s, none⟩ (.slice (some ⟨g', o', none⟩) (m + 1) cap')).cell? ⟨wr.heap.size, 0, none⟩ = some (.int .i64 0)) := hid_of (fun g' o' cap' w7 k1 k2 k3 => by
                obtain ⟨hv, hl0, hl1, hm, hul⟩ := HVL.out
                have bx : w7.heap[gm]? = some (.cells vs.toArray 39 (0, 0)) := by
                  obtain ⟨P, T, Z, _, _, h3, _⟩ := AW5.out
                  exact h3.boxG hv hl0 (Or.inr rfl) k2
                have hb7 : w7.heap[wr.heap.size]? = some (.cells [.int .i64 0, .int .i64 s, .slice ba bn bc, .slice ka kn kc].toArray 37 (0, 0)) := (k2.block _ hszW fun e => hne _ (Option.some.inj e) rfl).trans hlbW
                have hg7 : gm ≠ wr.heap.size := fun e => by
                  rw [e, hb7] at bx
                  simp only [Option.some.injEq, Obj.cells.injEq] at bx
                  exact absurd bx.2.1 (by decide)
                refine ⟨AW5.out.step hv hl0 (Or.inr rfl) k2 (l' := mayF M s ++ [xl]) (by rw [List.length_append, ← hl1, ← hm]; rfl) (by rcases k3 with k3 | k3; exact Or.inl (by rw [k3]; rfl); exact Or.inr k3) k1 (by rw [List.length_append, List.length_append, ← hl1, ← hm, hul]; rfl) (fun q u c hu hc => ?_), ⟨cell_blk hb7 rfl, cell_blk bx hv, fr_blk bx s⟩, cell_blk ((set_blk hg7).trans hb7) rfl⟩
                rw [← hl1] at hc
                by_cases e : q < us.length
                · rw [List.getElem?_append_left e] at hu
                  rw [List.getElem?_append_left (by omega)] at hc
                  exact Or.inl ⟨us, q, g2, o2, cap2, by rw [hm], OO5.out, hu, hc⟩
                · rw [List.getElem?_append_right (by omega)] at hu
                  rw [List.getElem?_append_right (by omega)] at hc
                  have hq : q = us.length := by have := (List.getElem?_eq_some_iff.1 hu).1; simp at this; omega
                  rw [hq, Nat.sub_self] at hu
                  rw [show q - l0.length = 0 by omega] at hc
                  simp only [List.getElem?_cons_zero, Option.some.injEq] at hu hc
                  subst hu hc
                  exact Or.inr ⟨HRB.out.1.at (E1.out.trans (AW5.out.bel.mono E1.out.size)), fun h0 => HRB.out.1.inlt (by rwa [by8_length])⟩)
              have HL2 : Hid (LM n (writeF M s xl).2 (ls.set s (mayF M s ++ [xl]))) := hid_of ⟨by rw [List.length_set]; exact hL.out.1, fun q hq => by
                rw [HMAY.out q]
                by_cases e : q = s
                · subst e; rw [List.getElem?_set_self (by rw [hL.out.1]; exact hq)]; simp
                · rw [List.getElem?_set_ne (Ne.symm e), hL.out.2 q hq, if_neg (by simpa using e)]⟩
              have c5W : W.cell? ⟨wr.heap.size, 0, none⟩ = some (.int .i64 0) ∧ W.cell? ⟨wr.heap.size, 1, none⟩ = some (.int .i64 s) ∧ W.cell? ⟨wr.heap.size, 2, none⟩ = some (.slice ba bn bc) := ⟨cell_blk hlbW rfl, cell_blk hlbW rfl, cell_blk hlbW rfl⟩
              rw [hW] at c5W cW S5 OO5 HP
              obtain ⟨cW0, cW1, cW2⟩ := c5W
              have d50 : w5.drew.cell? ⟨wr.heap.size, 0, none⟩ = some (.int .i64 0) := c50
              have d51 : w5.drew.cell? ⟨wr.heap.size, 1, none⟩ = some (.int .i64 s) := c51
              have d52 : w5.drew.cell? ⟨wr.heap.size, 2, none⟩ = some (.slice ba bn bc) := c52
              have d5g : w5.drew.cell? ⟨gm, s, none⟩ = some (.slice (some ⟨g2, o2, none⟩) m cap2) := c5g
              have HUL := hul
              have hsi : (s : Int) < (n : Int) := by omega
              clear hl1 hpos hmle oo hm hv hl0 hne hW AW5 HVL sz5 hlb5 hlbW hszW
              go_region_law (refine step_oo 39 32 (.slice none 0 0) 24 slE.und slE.info slE.one (by kernel_rfl) (.tmp 87) (.tmp 90) (by kernel_rfl) (g := g2) (oo := o2) (cap := cap2) (n := m) (us := us) HUL (by kernel_rfl) OO5.out (vx := .slice (some ⟨w5.heap.size, 0, none⟩) 1 1) (u := .slice ba bn bc) (by kernel_rfl) S5.out hmb (by decide) ?_; intro g' o' cap' w7 r1 r2 r3; have A8 := HP.out g' o' cap' w7 r1 r2 r3; have A9 := hid_of A8.1; obtain ⟨-, ⟨c71, c7g, f7g⟩, c80⟩ := A8; clear r1 r2 r3)
              all_goals go_wp2
              all_goals go_roundw
              all_goals first
                | (exact ⟨j + 1, _, _, _, by omega, by go_num, HM2, HL2, A9⟩)
                | (simp [intOf]; omega)
            · obtain ⟨er, her⟩ : ∃ er, er = (writeF M xs xl).1 := ⟨_, rfl⟩
              have h0 : (er == 0) = false := beq_eq_false_iff_ne.2 (by rw [her]; exact hw)
              rw [← her] at CW
              have HL2 : Hid (LM n (writeF M xs xl).2 ls) := hid_of (hL.out.of fun s => may_write_ne hw s)
              clear her hw HP rk rs rb rkp hbn hkn
              go_wp2_with (go_at_call 22; ((with_reducible refine (CW.out).mono ?_); (rintro e w5 ⟨rfl, q1, q2⟩)); have A5 := hid_of q1; have q3 := op_cells rfl q2; obtain ⟨c50, c51, c52⟩ := q3; clear q1 q2)
              go_roundw
              case rel => exact ⟨j + 1, _, _, _, by omega, by go_num, HM2, HL2, A5⟩
              case measure => simp [intOf]; omega
          by_cases hk1 : xk = 1
          · subst hk1
            have HP : Hid ((playF M ⟨1, xs, .slice ba bn bc, .slice ka kn kc, xl, xkp⟩).2 = (syncF M).2) := hid_of rfl
            have HM2 : Hid ((syncF M).2.cache.length ≤ j + 1 ∧ (syncF M).2.secs.length = n) := hid_of (by rw [← HP.out]; exact ⟨by have := playF_cache M ⟨1, xs, .slice ba bn bc, .slice ka kn kc, xl, xkp⟩; have := hM.out.1; omega, by rw [(playF_dim M _).2]; exact hM.out.2⟩)
            have CS := hid_of (hA.out.sync wr.heap.size (.cells #[.int .i64 1, .int .i64 xs, .slice ba bn bc, .slice ka kn kc] 37) rfl (by have := hM.out.1; omega))
            by_cases hw : (syncF M).1 = 0
            · rw [hw] at CS
              have HMAY : Hid (∀ s, s < n → mayF (syncF M).2 s = [(mayF M s).getLast (by simp [mayF])]) := hid_of (fun s hs => may_sync hw (by rw [hM.out.2]; exact hs))
              clear hw HP rk rs rb rkp hbn hkn
              go_wp2_with (go_at_call 23; ((with_reducible refine (CS.out).mono ?_); (rintro e w5 ⟨rfl, q1, q2⟩)); have A5 := hid_of q1; have q3 := op_cells rfl q2; have LC5 := hid_of (show w5.heap[wr.heap.size]? = some (.cells [.int .i64 1, .int .i64 xs, .slice ba bn bc, .slice ka kn kc].toArray 37 (0, 0)) from q2.trans (heap_alloc_new wr _)); obtain ⟨c50, c51, c52⟩ := q3; clear q1 q2)
              obtain ⟨lb, hlb⟩ : ∃ lb, lb = wr.heap.size := ⟨_, rfl⟩
              rw [← hlb] at LC5 c50 c51 c52 ⊢
              clear hlb
              go_loopw [15] (fun iv wx => ∃ (q : Nat) (ls : List (List (List Int))) (vs : List Value), q ≤ n ∧ iv = .int .i64 q ∧ Hid (ls.length = n ∧ ∀ s, s < n → ls[s]? = some (if s < q then mayF (syncF M).2 s else mayF M s)) ∧ Hid (wx.heap[lb]? = some (.cells [.int .i64 1, .int .i64 xs, .slice ba bn bc, .slice ka kn kc].toArray 37 (0, 0))) ∧ Hid (IA I w.heap.size w1 b gm wx (syncF M).2 ls vs)) (fun iv _ => n - (intOf iv).toNat)
              case atStart => exact ⟨0, _, _, Nat.zero_le _, rfl, hid_of ⟨hL.out.1, fun s hs => by rw [if_neg (by omega)]; exact hL.out.2 s hs⟩, LC5, A5⟩
              case round =>
                obtain ⟨q, ls, vs, hq, rfl, hL, hLC, hA⟩ := hrel
                by_cases hlt : q < n
                · have hdd : decide (q < n) = true := by simpa using hlt
                  have hdi : decide ((q : Int) < (n : Int)) = true := by simp; omega
                  have hqi : (q : Int) < (n : Int) := by omega
                  obtain ⟨W, hW⟩ : ∃ W, W = wr.drew := ⟨_, rfl⟩
                  have AW5 := hid_of (show IA I w.heap.size w1 b gm W (syncF M).2 ls vs from by rw [hW]; exact hA.out.drew)
                  obtain ⟨v, l0, hv, hl0, -, cW, fW, hsh⟩ := AW5.out.outer (i := q) (by rw [hL.out.1]; exact hlt)
                  have hl1 : l0 = mayF M q := by have h9 := hL.out.2 q hlt; rw [hl0, if_neg (Nat.lt_irrefl _)] at h9; exact Option.some.inj h9
                  have hpos := mayF_pos M q
                  have hmle := mayF_len M q
                  rcases hsh with ⟨_, e⟩ | ⟨g2, o2, cap2, us, rfl, oo, hul, -⟩
                  · rw [hl1] at e; rw [e] at hpos; exact absurd hpos (by simp)
                  obtain ⟨m, hm⟩ : ∃ m, l0.length = m + 1 := ⟨l0.length - 1, by rw [hl1]; omega⟩
                  rw [hm] at hv cW hul
                  have cx := cell_blk hA.out.box hv
                  have ocw := oo
                  obtain ⟨_, _, hcap, hcm, _, _⟩ := ocw
                  unfold maxLen at hcm
                  rw [hul] at hcap
                  have hlast : l0[m]? = some ((mayF M q).getLast (by simp [mayF])) := by
                    rw [← List.getLast?_eq_some_getLast, List.getLast?_eq_getElem?, ← hl1, hm]
                    rfl
                  have hbg : gm ≠ lb := fun e => by
                    have h9 := hA.out.box
                    rw [e, hLC.out] at h9
                    simp only [Option.some.injEq, Obj.cells.injEq] at h9
                    exact absurd h9.2.1 (by decide)
                  have HLC2 : Hid (∀ x, (wr.drew.setCell ⟨gm, q, none⟩ x).heap[lb]? = some (.cells [.int .i64 1, .int .i64 xs, .slice ba bn bc, .slice ka kn kc].toArray 37 (0, 0))) := hid_of (fun x => (set_blk hbg).trans hLC.out)
                  have HST : Hid (IA I w.heap.size w1 b gm (wr.drew.setCell ⟨gm, q, none⟩ (.slice (some ⟨g2, o2 + m, none⟩) 1 (cap2 - m))) (syncF M).2 (ls.set q [(mayF M q).getLast (by simp [mayF])]) (vs.set q (.slice (some ⟨g2, o2 + m, none⟩) 1 (cap2 - m)))) := hid_of (by
                    rw [← hW]
                    refine AW5.out.step hv hl0 (Or.inr rfl) ⟨rfl, rfl, rfl, Nat.le_refl _, fun _ _ _ => rfl⟩ (l' := [(mayF M q).getLast (by simp [mayF])]) (us' := us.drop m) rfl (Or.inl rfl) (oo.drop (by omega)) (by rw [List.length_drop, hul]; simp) (fun k u c hu hc => ?_)
                    have hk : k = 0 := by have := (List.getElem?_eq_some_iff.1 hc).1; simp at this; omega
                    subst hk
                    rw [List.getElem?_drop] at hu
                    simp only [List.getElem?_cons_zero, Option.some.injEq] at hc
                    exact Or.inl ⟨us, m, g2, o2, cap2, by rw [hm], oo, hu, by rw [← hc]; exact hlast⟩)
                  have HL2 : Hid ((ls.set q [(mayF M q).getLast (by simp [mayF])]).length = n ∧ ∀ s, s < n → (ls.set q [(mayF M q).getLast (by simp [mayF])])[s]? = some (if s < q + 1 then mayF (syncF M).2 s else mayF M s)) := hid_of ⟨by rw [List.length_set]; exact hL.out.1, fun s hs => by
                    by_cases e : s = q
                    · subst e
                      rw [List.getElem?_set_self (by rw [hL.out.1]; exact hs), if_pos (by omega), HMAY.out s hs]
                    · rw [List.getElem?_set_ne (Ne.symm e), hL.out.2 s hs]
                      by_cases e2 : s < q
                      · rw [if_pos e2, if_pos (by omega)]
                      · rw [if_neg e2, if_neg (by omega)]⟩
                  rw [hW] at cW fW
                  have hwm : IntKind.i64.wrap (m : Int) = (m : Int) := IntWalk.i64_in _ (by omega)
                  have hmm : (m : Int) ≤ (m : Int) + 1 := by omega
                  have hcn : ¬ cap2 = m := by omega
                  have hcm1 : m + 1 - m = 1 := by omega
                  clear hlast hl1 hpos hmle oo hm hv hl0 hW AW5 hbg hul hcm hcap
                  go_wp2
                  go_still_tail 14, (by kernel_rfl)
                  change wpList _ _ _ _ _ wr.drew
                  go_wp2
                  go_roundw
                  case rel => exact ⟨q + 1, _, _, by omega, by go_num, HL2, hid_of (HLC2.out _), HST⟩
                  case measure => simp [intOf]; omega
                · obtain rfl : n = q := by omega
                  have hdd : decide (n < n) = false := by simp
                  have cx0 := cell_blk (j := 0) hLC.out rfl
                  have HL2 : Hid (LM n (syncF M).2 ls) := hid_of ⟨hL.out.1, fun s hs => by have h9 := hL.out.2 s hs; rwa [if_pos hs] at h9⟩
                  go_wp2
                  go_roundw
                  case rel => exact ⟨j + 1, _, _, _, by omega, by go_num, HM2, HL2, hA⟩
                  case measure => simp [intOf]; omega
            · obtain ⟨er, her⟩ : ∃ er, er = (syncF M).1 := ⟨_, rfl⟩
              have h0 : (er == 0) = false := beq_eq_false_iff_ne.2 (by rw [her]; exact hw)
              rw [← her] at CS
              have HL2 : Hid (LM n (syncF M).2 ls) := hid_of (hL.out.of fun s => may_sync_ne hw s)
              clear her hw HP rk rs rb rkp hbn hkn
              go_wp2_with (go_at_call 23; ((with_reducible refine (CS.out).mono ?_); (rintro e w5 ⟨rfl, q1, q2⟩)); have A5 := hid_of q1; have q3 := op_cells rfl q2; obtain ⟨c50, c51, c52⟩ := q3; clear q1 q2)
              go_roundw
              case rel => exact ⟨j + 1, _, _, _, by omega, by go_num, HM2, HL2, A5⟩
              case measure => simp [intOf]; omega
          by_cases hk2 : xk = 2
          · subst hk2
            have HP : Hid ((playF M ⟨2, xs, .slice ba bn bc, .slice ka kn kc, xl, xkp⟩).2 = failF M xs) := hid_of rfl
            have HM2 : Hid ((failF M xs).cache.length ≤ j + 1 ∧ (failF M xs).secs.length = n) := hid_of (by rw [← HP.out]; exact ⟨by have := playF_cache M ⟨2, xs, .slice ba bn bc, .slice ka kn kc, xl, xkp⟩; have := hM.out.1; omega, by rw [(playF_dim M _).2]; exact hM.out.2⟩)
            have CF := hid_of (hA.out.fail wr.heap.size (.cells #[.int .i64 2, .int .i64 xs, .slice ba bn bc, .slice ka kn kc] 37) rfl rs)
            have HL2 : Hid (LM n (failF M xs) ls) := hid_of (hL.out.of fun s => may_fail M xs s)
            clear HP rk rs rb rkp hbn hkn
            go_wp2_with (go_at_call 24; ((with_reducible refine (CF.out).mono ?_); (rintro e w5 ⟨rfl, q1, q2⟩)); have A5 := hid_of q1; clear q1 q2)
            go_roundw
            case rel => exact ⟨j + 1, _, _, _, by omega, by go_num, HM2, HL2, A5⟩
            case measure => simp [intOf]; omega
          have e0 : (xk == 0) = false := beq_eq_false_iff_ne.2 hk
          have e1 : (xk == 1) = false := beq_eq_false_iff_ne.2 hk1
          have e2 : (xk == 2) = false := beq_eq_false_iff_ne.2 hk2
          have A5 := hid_of (hA.out.alloc (.cells #[.int .i64 xk, .int .i64 xs, .slice ba bn bc, .slice ka kn kc] 37))
          clear hk hk1 hk2 rk rs rb rkp hbn hkn
          go_wp2
          go_roundw
          case rel => exact ⟨j + 1, M, _, _, by omega, by go_num, hid_of ⟨by have := hM.out.1; omega, hM.out.2⟩, hL, A5⟩
          case measure => simp [intOf]; omega
        · obtain rfl : len = j := by omega
          have hdd : decide (len < len) = false := by simp
          have EW := hid_of (E1.out.trans (hA.out.bel.mono E1.out.size))
          have CK := hid_of (hA.out.crash (by have := hM.out.1; omega) (HRK.out.at EW.out) (fun h0 => HRK.out.inlt h0))
          go_wp2_with (go_at_call 25; ((with_reducible refine (CK.out).mono ?_); (rintro e w5 ⟨rfl, q1⟩)); have A5 := hid_of q1; clear q1)
          go_loopw [16, 17, 18, 19, 20] (fun iv v17 v18 v19 v20 wx => ∃ i : Nat, i ≤ n ∧ iv = .int .i64 i ∧ Hid (IA I w.heap.size w1 b gm wx (crashF M kp) ls vs)) (fun iv _ _ _ _ _ => n - (intOf iv).toNat)
          case atStart => exact ⟨0, Nat.zero_le _, rfl, A5⟩
          clear hA EW CK A5 hlt
          case round =>
            obtain ⟨i, hi, rfl, hA⟩ := hrel
            by_cases hlt : i < n
            · have hdd : decide (i < n) = true := by simpa using hlt
              have hdi : decide ((i : Int) < (n : Int)) = true := by simp; omega
              have hin : (i : Int) < (n : Int) := by omega
              have ri : R64 (i : Int) := ⟨by omega, by omega⟩
              obtain ⟨lr, hlr, hmem⟩ := may_crash M kp (s := i) (by rw [hM.out.2]; exact hlt)
              have CR9 := hid_of (hA.out.read (s := (i : Int)) (by show 0 ≤ 1000000; omega) ri)
              rw [hlr] at CR9
              clear hlr ri
              go_wp2_with (go_at_call 19; ((with_reducible refine (CR9.out).mono ?_); (rintro e w6 ⟨y6, n6, c6, rfl, q1, q2⟩)); have Y6 := hid_of q1; have A6 := hid_of (hA.out.below q2); clear q1 q2)
              obtain ⟨m, hm⟩ : ∃ m, m = (mayF M i).length := ⟨_, rfl⟩
              have HIX : Hid (∃ k0, k0 < m ∧ (mayF M i)[k0]? = some lr) := hid_of (by
                obtain ⟨k0, h1, h2⟩ := List.getElem_of_mem hmem
                exact ⟨k0, by omega, by rw [List.getElem?_eq_getElem h1, h2]⟩)
              have hmb : m ≤ 1000001 := by have := mayF_len M i; have := hM.out.1; omega
              have hpos : 0 < m := by rw [hm]; exact mayF_pos M i
              clear hmem
              go_wp2
              go_loopw [19, 20] (fun fv iv wx => ∃ (k : Nat) (f : Bool), k ≤ m ∧ iv = .int .i64 k ∧ fv = .bool f ∧ Hid (∀ q, q < k → (mayF M i)[q]? = some lr → f = true) ∧ Hid (IA I w.heap.size w1 b gm wx (crashF M kp) ls vs) ∧ Hid (Below w6.heap.size w6 wx)) (fun _ iv _ => m - (intOf iv).toNat)
              case atStart => exact ⟨0, false, Nat.zero_le _, rfl, rfl, hid_of (fun q hq => by omega), A6, hid_of (Below.refl _ _)⟩
              case round =>
                obtain ⟨k, f, hk, rfl, rfl, hf, hA, hB⟩ := hrel
                obtain ⟨v, l0, hv, hl0, cN, cx, -, hsh⟩ := hA.out.outer (i := i) (by rw [hL.out.1]; exact hlt)
                have hl1 : l0 = mayF M i := by have h9 := hL.out.2 i hlt; rw [hl0] at h9; exact Option.some.inj h9
                rw [← hl1] at hm hf HIX
                rcases hsh with ⟨_, e⟩ | ⟨g2, o2, cap2, us, rfl, oo, hul, hrd⟩
                · rw [e] at hm; simp at hm; omega
                rw [← hm] at cN cx hul
                have HQ9 := hid_of (And.intro hl1 (And.intro hul hm))
                clear hl1 hm
                have cD := cN 1
                by_cases hkm : k < m
                · have hdk : decide (k < m) = true := by simpa using hkm
                  have hdk' : decide ((k : Int) < (m : Int)) = true := by simp; omega
                  cases f with
                  | true =>
                    clear hrd oo hf hul
                    go_wp2
                    go_quiet (fail)
                    all_goals go_wp2
                    all_goals go_roundw
                    all_goals first
                      | (exact ⟨k + 1, true, by omega, by go_num, rfl, hid_of (fun q _ _ => rfl), hid_of (hA.out.drewN _), hid_of (bel_drewN hB.out _)⟩)
                      | (simp [intOf]; omega)
                  | false =>
                    obtain ⟨u, hu⟩ : ∃ u, us[k]? = some u := ⟨_, List.getElem?_eq_getElem (by have := HQ9.out.2.1; omega)⟩
                    obtain ⟨c, hc⟩ : ∃ c, l0[k]? = some c := ⟨_, List.getElem?_eq_getElem (by have := HQ9.out.2.2; omega)⟩
                    have hr := hrd k u c hu hc
                    obtain ⟨ua, uc, rfl⟩ : ∃ a e, u = .slice a c.length e := by obtain ⟨a, c', e, _⟩ := hr; rw [by8_length] at e; exact ⟨a, c', e⟩
                    have ci := oo.cell hu
                    have ciN : ∀ p, (wr.drewN p).cell? ⟨g2, o2 + k, none⟩ = some (.slice ua c.length uc) := fun p => ci
                    obtain ⟨s1, hs1⟩ : ∃ s1, s1 = strD c := ⟨_, rfl⟩
                    obtain ⟨s2, hs2⟩ : ∃ s2, s2 = strD lr := ⟨_, rfl⟩
                    have cv1 : ∀ p, (convert 32 9 (.slice ua c.length uc)).run Try.prog (wr.drewN p) = .ok (.string s1) (wr.drewN p) := fun p => by rw [hs1]; exact conv_by8 (hr.at (bel_drewN (Below.refl _ _) p))
                    have cv2 : ∀ p, (convert 32 9 (.slice y6 n6 c6)).run Try.prog (wr.drewN p) = .ok (.string s2) (wr.drewN p) := fun p => by rw [hs2]; exact conv_by8 (Y6.out.at (bel_drewN hB.out p))
                    have HEQ : Hid (c = lr → (s1.toList == s2.toList) = true) := hid_of (fun e => by rw [hs1, hs2, e]; exact beq_self_eq_true _)
                    have hki : (k : Int) < (m : Int) := by omega
                    have HF := hid_of (fun (q : Nat) (h1 : q < k + 1) (h2 : l0[q]? = some lr) => by
                      rcases Nat.lt_or_ge q k with h3 | h3
                      · exact absurd (hf.out q h3 h2) (by simp)
                      · obtain rfl : q = k := by omega
                        rw [hc] at h2
                        exact HEQ.out (Option.some.inj h2))
                    rw [HQ9.out.1] at HF
                    clear hs1 hs2 hr hu hc hrd oo hf hul
                    go_wp2
                    go_quiet (fail)
                    all_goals go_wp2
                    all_goals go_roundw
                    all_goals first
                      | (exact ⟨k + 1, _, by omega, by go_num, rfl, HF, hid_of (hA.out.drewN _), hid_of (bel_drewN hB.out _)⟩)
                      | (simp [intOf]; omega)
                · obtain rfl : m = k := by omega
                  have hdk : decide (m < m) = false := by simp
                  obtain rfl : f = true := by
                    obtain ⟨k0, h1, h2⟩ := HIX.out
                    exact hf.out k0 h1 h2
                  go_wp2
                  go_roundw
                  case rel => exact ⟨i + 1, by omega, by go_num, hA⟩
                  case measure => simp [intOf]; omega
            · obtain rfl : n = i := by omega
              have hdd : decide (n < n) = false := by simp
              go_wp2
              go_ret
              exact ⟨rfl, E1.out.trans (hA.out.bel.mono E1.out.size)⟩
end Go.Proofs.Yteceljhhhbmemaa

/- The law over the interface, and the program's disk. -/
namespace Go.Proofs.Yteceljhhhbmemaa
end Go.Proofs.Yteceljhhhbmemaa
