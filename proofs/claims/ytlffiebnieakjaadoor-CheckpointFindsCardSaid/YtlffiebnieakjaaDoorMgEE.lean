/- Texts in one: CkNw, ShaIsRow, ShaOwn, ShaApp, ShaRefSum, ShaRefCon, ShaRefBlk, ShaRefAll, CkRh, CkAw0, CkIn, CkMk. -/
import Derived.Test.YtlffiebnieakjaaDoorMgED
import Derived.OpenShut
import Derived.OwnWalk
import Derived.WalkLawsBesides
import Derived.Test.YtlffiebnieakjaaDoorRows
import Derived.Deep.SlicePairs
import Derived.Deep.Grids
import Derived.ChangeSame
import Derived.ProofKit
set_option linter.unusedVariables false
set_option linter.unusedSimpArgs false
/- Checkpoint: a live store in a law's run, and a dead one. Bounds on sizes alone. -/
namespace Go.Proofs.YtlffiebnieakjaaDoor
open Go.RowKit
set_option maxRecDepth 100000
set_option maxHeartbeats 1600000

/-- The newest checkpoint of a region. -/
def nwD (M : DM) (f n : Nat) : List Int × Nat × Nat := newestF (slD M f n) (slD M (f + n) n)
/-- Where the next save goes. -/
def tgF (f n i : Nat) : Nat := if i = 0 then f + n else f
theorem newest_0 {a b : Option (List Int × Nat)} {c : List Int} {g : Nat} (h : newestF a b = (c, g, 0)) (x : List Int) : a = some (c, g) ∧ newestF a none = (c, g, 0) ∧ newestF a (some (x, g + 1)) = (x, g + 1, 1) := by
  cases a with
  | none => cases b with
    | none => cases h
    | some y => cases h
  | some p =>
    have e : p = (c, g) := by
      cases b with
      | none => cases h; rfl
      | some y =>
        simp only [newestF] at h
        split at h
        · cases h; rfl
        · cases h
    subst e
    refine ⟨rfl, rfl, ?_⟩
    show (if g ≥ g + 1 then _ else (x, g + 1, 1)) = _
    rw [if_neg (by omega)]
theorem newest_1 {a b : Option (List Int × Nat)} {c : List Int} {g : Nat} (h : newestF a b = (c, g, 1)) (x : List Int) : newestF none b = (c, g, 1) ∧ newestF (some (x, g + 1)) b = (x, g + 1, 0) := by
  cases b with
  | none =>
    cases a with
    | none => cases h; exact ⟨rfl, rfl⟩
    | some p => cases h
  | some y =>
    have e : y = (c, g) := by
      cases a with
      | none => cases h; rfl
      | some p =>
        simp only [newestF] at h
        split at h
        · cases h
        · cases h; rfl
    subst e
    refine ⟨rfl, ?_⟩
    show (if g + 1 ≥ g then (x, g + 1, 0) else _) = _
    rw [if_pos (by omega)]
theorem newest_ix (a b : Option (List Int × Nat)) : (newestF a b).2.2 = 0 ∨ (newestF a b).2.2 = 1 := by
  cases a <;> cases b
  · exact Or.inr rfl
  · exact Or.inr rfl
  · exact Or.inl rfl
  · simp only [newestF]
    split
    · exact Or.inl rfl
    · exact Or.inr rfl
theorem rng_run : ∀ (O : List (Option (Nat × List Int))) (M : DM), (∀ p, some p ∈ O → Byt p.2) → RngM M → RngM (runF O M).2
  | [], M, _, h => h
  | o :: r, M, ho, h => by
    have e : RngM (opF M o).2 := by
      cases o with
      | none => exact rng_sync h
      | some p => exact rng_write h (ho p (by simp))
    rw [runF]
    split
    · exact rng_run r _ (fun p hp => ho p (by simp [hp])) e
    · exact e
theorem cache_run : ∀ (O : List (Option (Nat × List Int))) (M : DM), (runF O M).2.cache.length ≤ M.cache.length + O.length
  | [], M => Nat.le_refl _
  | o :: r, M => by
    have e : (opF M o).2.cache.length ≤ M.cache.length + 1 := by
      cases o with
      | none => exact Nat.le_trans (sync_keep M).2 (Nat.le_succ _)
      | some p => exact write_cache M p.1 p.2
    have h := cache_run r (opF M o).2
    rw [runF]
    split
    · simp only [List.length_cons]; omega
    · simp only [List.length_cons]; omega
theorem secs_run : ∀ (O : List (Option (Nat × List Int))) (M : DM), (runF O M).2.secs.length = M.secs.length
  | [], M => rfl
  | o :: r, M => by
    have e : (opF M o).2.secs.length = M.secs.length := by
      cases o with
      | none =>
        show (syncF M).2.secs.length = _
        unfold syncF
        split
        · exact congrArg List.length (stepF_same _).2.1
        · exact putF_len _ _
      | some p => exact congrArg List.length (write_same M p.1 p.2).1
    rw [runF]
    split
    · rw [secs_run r, e]
    · exact e
theorem ok_run : ∀ (O : List (Option (Nat × List Int))) (M : DM), M.Ok → (runF O M).2.Ok
  | [], M, h => h
  | o :: r, M, h => by
    have e : (opF M o).2.Ok := by
      cases o with
      | none => exact h.sync
      | some p => exact h.write p.1 p.2
    rw [runF]
    split
    · exact ok_run r _ e
    · exact e
theorem savO_mem {H : List Int} {f z : Nat} {b : List Int} {p : Nat × List Int} (h : some p ∈ savO H f z b) : (p = (f, List.replicate z 0) ∨ p = (f, H)) ∨ ∃ j, j < (b.length + z - 1) / z ∧ p = (f + 1 + j, secL b z j) := by
  simp only [savO, filO, List.mem_append, List.mem_cons, List.mem_map, List.mem_range, List.not_mem_nil, or_false, Option.some.injEq, reduceCtorEq, false_or] at h
  rcases h with h | h | h
  · exact Or.inl (Or.inl h)
  · obtain ⟨j, h1, h2⟩ := h; exact Or.inr ⟨j, h1, h2.symm⟩
  · exact Or.inl (Or.inr h)
theorem savO_len (H : List Int) (f z : Nat) (b : List Int) : (savO H f z b).length = 5 + (b.length + z - 1) / z := by
  simp only [savO, filO, List.length_append, List.length_cons, List.length_nil, List.length_map, List.length_range]
  omega
theorem secL_byt {b : List Int} (h : Byt b) (z j : Nat) : Byt (secL b z j) := fun x hx => by
  rw [secL_pad, padF] at hx
  rcases List.mem_append.1 hx with h1 | h1
  · exact h x (List.mem_of_mem_drop (List.mem_of_mem_take h1))
  · rw [List.mem_replicate] at h1; omega
theorem headK_byt (b : List Int) (g : Nat) {z : Nat} (hz : 44 ≤ z) : Byt (headK Sh.digest z b g) := fun x hx => by
  rw [← pad_enc b g hz, padF] at hx
  rcases List.mem_append.1 hx with h1 | h1
  · exact encF_byt g x (List.mem_of_mem_take h1)
  · rw [List.mem_replicate] at h1; omega
theorem rng_save {M : DM} {f g : Nat} {b : List Int} (h : RngM M) (hb : Byt b) (hz : 44 ≤ M.sz) : RngM (saveF (headK Sh.digest M.sz b g) M f b).2 := rng_run _ _ (fun p hp => by
  rcases savO_mem hp with (e | e) | ⟨j, _, e⟩
  · rw [e]; intro x hx; rw [List.mem_replicate] at hx; omega
  · rw [e]; exact headK_byt b g hz
  · rw [e]; exact secL_byt hb _ _) h
/-- Where the disk does not fail, all operations are carried out. -/
theorem nf_run : ∀ (O : List (Option (Nat × List Int))) (M : DM), (∀ p, some p ∈ O → p.1 < M.secs.length ∧ p.2.length = M.sz) → NF M → (runF O M).1 = true ∧ NF (runF O M).2
  | [], M, _, h => ⟨rfl, h⟩
  | o :: r, M, ho, h => by
    have e : (opF M o).1 = 0 ∧ NF (opF M o).2 ∧ (opF M o).2.sz = M.sz ∧ (opF M o).2.secs.length = M.secs.length := by
      cases o with
      | none =>
        have := nf_sync h
        refine ⟨this.1, this.2, (sync_keep M).1, ?_⟩
        have h9 := secs_run [none] M
        rw [runF_one] at h9
        exact h9
      | some p =>
        obtain ⟨h1, h2⟩ := ho p (by simp)
        have := nf_write h h1 h2
        exact ⟨this.1, this.2, (write_same M p.1 p.2).2, congrArg List.length (write_same M p.1 p.2).1⟩
    rw [runF, if_pos e.1]
    exact nf_run r _ (fun p hp => by rw [e.2.2.1, e.2.2.2]; exact ho p (by simp [hp])) e.2.1
theorem nf_save {M : DM} {f n g : Nat} {b : List Int} (h : NF M) (hf : f + n ≤ M.secs.length) (hn : 2 ≤ n) (hz : 44 ≤ M.sz) (hb : b.length ≤ (n - 1) * M.sz) : (saveF (headK Sh.digest M.sz b g) M f b).1 = true ∧ NF (saveF (headK Sh.digest M.sz b g) M f b).2 := nf_run _ _ (fun p hp => by
  have hk := need_le (l := b.length) (z := M.sz) (n := n) (by omega) hb
  rcases savO_mem hp with (e | e) | ⟨j, h1, e⟩
  · rw [e]; exact ⟨by simp only []; omega, by simp⟩
  · rw [e]; exact ⟨by simp only []; omega, headK_len Sh.digest_length hz b g⟩
  · rw [e]; exact ⟨by simp only []; omega, secL_len _ _ _⟩) h
/-- A clean disk whose region holds the newest checkpoint c, g in slot i. -/
structure CPV (M : DM) (f n i : Nat) (c : List Int) (g : Nat) : Prop where
  ok : M.Ok
  cln : M.cache = []
  nw : nwD M f n = (c, g, i)
  reg : f + n + n ≤ M.secs.length ∧ 2 ≤ n
  sz : 64 ≤ M.sz
theorem CPV.ix {M : DM} {f n i g : Nat} {c : List Int} (h : CPV M f n i c g) : i = 0 ∨ i = 1 := by
  have h1 := newest_ix (slD M f n) (slD M (f + n) n)
  have h2 := h.nw
  unfold nwD at h2
  rw [h2] at h1
  exact h1
/-- The slots behind a good save. -/
theorem CPV.good {M : DM} {f n i g : Nat} {c l : List Int} (h : CPV M f n i c g) (hb : l.length ≤ (n - 1) * M.sz) (hg : g < maxG) (hok : (saveF (headK Sh.digest M.sz l (g + 1)) M (tgF f n i) l).1 = true) : (saveF (headK Sh.digest M.sz l (g + 1)) M (tgF f n i) l).2.off = false ∧ (saveF (headK Sh.digest M.sz l (g + 1)) M (tgF f n i) l).2.cache = [] ∧ (saveF (headK Sh.digest M.sz l (g + 1)) M (tgF f n i) l).2.secs.length = M.secs.length ∧ nwD (saveF (headK Sh.digest M.sz l (g + 1)) M (tgF f n i) l).2 f n = (l, g + 1, 1 - i) ∧ slD (saveF (headK Sh.digest M.sz l (g + 1)) M (tgF f n i) l).2 (tgF f n i) n = some (l, g + 1) ∧ slD (saveF (headK Sh.digest M.sz l (g + 1)) M (tgF f n i) l).2 (tgF f n (1 - i)) n = slD M (tgF f n (1 - i)) n ∧ ∀ s, s < M.secs.length → s < tgF f n i ∨ tgF f n i + n ≤ s → (saveF (headK Sh.digest M.sz l (g + 1)) M (tgF f n i) l).2.secs.getD s [] = M.secs.getD s [] := by
  have hr := h.reg
  have hz := h.sz
  have htg : tgF f n i + n ≤ M.secs.length := by unfold tgF; split <;> omega
  obtain ⟨a1, a2, a3, a4, a5⟩ := save_good (f := tgF f n i) h.ok h.cln htg hr.2 (by omega) hb ⟨by omega, hg⟩ hok
  have hoth : slD (saveF (headK Sh.digest M.sz l (g + 1)) M (tgF f n i) l).2 (tgF f n (1 - i)) n = slD M (tgF f n (1 - i)) n := slD_same h.cln a2 (fun s h1 h2 => by
    rcases h.ix with rfl | rfl
    · simp only [tgF, if_pos, Nat.sub_zero, Nat.one_ne_zero, if_false] at h1 h2 a5
      exact a5 s (by omega) (Or.inl (by omega))
    · simp only [tgF, if_pos, Nat.sub_self, Nat.one_ne_zero, if_false] at h1 h2 a5
      exact a5 s (by omega) (Or.inr (by omega))) (by omega)
  refine ⟨a1, a2, a3, ?_, a4, hoth, a5⟩
  have hn := h.nw
  rcases h.ix with rfl | rfl
  · simp only [tgF, if_pos, Nat.sub_zero, Nat.one_ne_zero, if_false] at a4 hoth ⊢
    unfold nwD at hn ⊢
    rw [a4, hoth]
    exact (newest_0 hn l).2.2
  · simp only [tgF, if_pos, Nat.sub_self, Nat.one_ne_zero, if_false] at a4 hoth ⊢
    unfold nwD at hn ⊢
    rw [a4, hoth]
    exact (newest_1 hn l).2
/-- The slots behind a save that was interrupted, and a crash. -/
theorem CPV.torn {M : DM} {f n i g : Nat} {c l : List Int} (h : CPV M f n i c g) (hb : l.length ≤ (n - 1) * M.sz) (hg : g < maxG) (hok : (saveF (headK Sh.digest M.sz l (g + 1)) M (tgF f n i) l).1 = false) : (saveF (headK Sh.digest M.sz l (g + 1)) M (tgF f n i) l).2.off = true ∧ (saveF (headK Sh.digest M.sz l (g + 1)) M (tgF f n i) l).2.secs.length = M.secs.length ∧ ∀ kp, nwD (crashF (saveF (headK Sh.digest M.sz l (g + 1)) M (tgF f n i) l).2 kp) f n = (c, g, i) ∨ nwD (crashF (saveF (headK Sh.digest M.sz l (g + 1)) M (tgF f n i) l).2 kp) f n = (l, g + 1, 1 - i) := by
  have hr := h.reg
  have hz := h.sz
  have htg : tgF f n i + n ≤ M.secs.length := by unfold tgF; split <;> omega
  obtain ⟨a1, a2, a3⟩ := save_torn (f := tgF f n i) h.ok h.cln htg hr.2 (by omega) hb ⟨by omega, hg⟩ hok
  refine ⟨a1, a2, fun kp => ?_⟩
  obtain ⟨b1, b2⟩ := a3 kp
  have hn := h.nw
  have hoth : slD (crashF (saveF (headK Sh.digest M.sz l (g + 1)) M (tgF f n i) l).2 kp) (tgF f n (1 - i)) n = slD M (tgF f n (1 - i)) n := slD_same h.cln rfl (fun s h1 h2 => by
    rcases h.ix with rfl | rfl
    · simp only [tgF, if_pos, Nat.sub_zero, Nat.one_ne_zero, if_false] at h1 h2 b2
      exact b2 s (by omega) (Or.inl (by omega))
    · simp only [tgF, if_pos, Nat.sub_self, Nat.one_ne_zero, if_false] at h1 h2 b2
      exact b2 s (by omega) (Or.inr (by omega))) (by omega)
  rcases h.ix with rfl | rfl
  · simp only [tgF, if_pos, Nat.sub_zero, Nat.one_ne_zero, if_false] at b1 hoth ⊢
    unfold nwD at hn ⊢
    rw [hoth]
    rcases b1 with e | e | e
    · rw [e]; exact Or.inl hn
    · rw [e]; exact Or.inl (newest_0 hn l).2.1
    · rw [e]; exact Or.inr (newest_0 hn l).2.2
  · simp only [tgF, if_pos, Nat.sub_self, Nat.one_ne_zero, if_false] at b1 hoth ⊢
    unfold nwD at hn ⊢
    rw [hoth]
    rcases b1 with e | e | e
    · rw [e]; exact Or.inl hn
    · rw [e]; exact Or.inl (newest_1 hn l).1
    · rw [e]; exact Or.inr (newest_1 hn l).2
/-- A live store in a law's run. -/
structure LV (B : Nat) (T : Nat → Prop) (w : World) (cb b : Nat) (M : DM) (f n i : Nat) (c : List Int) (g : Nat) : Prop where
  st : CKR B T w cb b M f n i c g true
  cln : M.cache = []
  on : M.off = false
  rng : RngM M
  nw : nwD M f n = (c, g, i)
  reg : f + n + n ≤ M.secs.length ∧ 2 ≤ n
  sz : 64 ≤ M.sz ∧ (n - 1) * M.sz ≤ 30000
/-- A store whose save was interrupted. -/
structure DV (B : Nat) (T : Nat → Prop) (w : World) (cb b : Nat) (M : DM) (f n i : Nat) (c : List Int) (g : Nat) (l : List Int) : Prop where
  st : CKR B T w cb b M f n i c g false
  off : M.off = true
  rng : RngM M
  cch : M.cache.length ≤ 100000
  nw : ∀ kp, nwD (crashF M kp) f n = (c, g, i) ∨ nwD (crashF M kp) f n = (l, g + 1, 1 - i)
  reg : f + n + n ≤ M.secs.length ∧ 2 ≤ n
  sz : 64 ≤ M.sz ∧ (n - 1) * M.sz ≤ 30000
section
variable {B : Nat} {T : Nat → Prop} {w w' : World} {cb b : Nat} {M : DM} {f n i g : Nat} {c l : List Int}
theorem LV.ok (h : LV B T w cb b M f n i c g) : M.Ok := h.st.disk.ok
theorem LV.ix (h : LV B T w cb b M f n i c g) : i = 0 ∨ i = 1 := by
  have h1 := newest_ix (slD M f n) (slD M (f + n) n)
  have h2 := h.nw
  unfold nwD at h2
  rw [h2] at h1
  exact h1
theorem LV.gb (h : LV B T w cb b M f n i c g) : g ≤ maxG := by
  obtain ⟨U, h1, h2, h3⟩ := h.st
  exact h2.gb
theorem LV.cl (h : LV B T w cb b M f n i c g) : c.length ≤ (n - 1) * M.sz := by
  obtain ⟨U, h1, h2, h3⟩ := h.st
  exact h2.cl
theorem LV.bel (h : LV B T w cb b M f n i c g) (hb : Below w.heap.size w w') : LV B (Tn T w w') w' cb b M f n i c g := ⟨h.st.bel hb, h.cln, h.on, h.rng, h.nw, h.reg, h.sz⟩
theorem LV.bel0 (h : LV B T w cb b M f n i c g) (hb : Below w.heap.size w w') : LV B T w' cb b M f n i c g := ⟨h.st.bel0 hb, h.cln, h.on, h.rng, h.nw, h.reg, h.sz⟩
theorem LV.pure (h : LV B T w cb b M f n i c g) : CPV M f n i c g := ⟨h.ok, h.cln, h.nw, h.reg, h.sz.1⟩
/-- Save of a live store: refused. -/
theorem LV.save_lim {bo : Option Addr} {bn bc : Nat} (h : LV B T w cb b M f n i c g) (t : TR B T w) (hin : CR T w (.slice bo bn bc) l) (hl : (n - 1) * M.sz < l.length ∨ g = maxG) :
    Calls Tryd.prog 22 #[.pointer (some ⟨cb, 0, none⟩), .slice bo bn bc] w fun e w' => e = .returned (.int .i64 6) ∧ LV B T w' cb b M f n i c g ∧ Below B w w' ∧ Keeps T w w' := by
  by_cases h1 : (n - 1) * M.sz < l.length
  · exact (save_lim1 h.st t hin h1).mono fun e w' ⟨q1, q2, q3, q4⟩ => ⟨q1, ⟨q2, h.cln, h.on, h.rng, h.nw, h.reg, h.sz⟩, q3, q4⟩
  · exact (save_lim2 h.st t hin (by omega) (by rcases hl with e | e; exact absurd e h1; exact e)).mono fun e w' ⟨q1, q2, q3, q4⟩ => ⟨q1, ⟨q2, h.cln, h.on, h.rng, h.nw, h.reg, h.sz⟩, q3, q4⟩
/-- Save of a live store: carried out. -/
theorem LV.save_ok {bo : Option Addr} {bn bc : Nat} (h : LV B T w cb b M f n i c g) (t : TR B T w) (hin : CR T w (.slice bo bn bc) l) (hlb : Byt l) (hl : l.length ≤ (n - 1) * M.sz) (hg : g < maxG) (hG : Sh.Glob w) (hB2 : 2 ≤ B) (hfn : f + n ≤ 60000) (hok : (saveF (headK Sh.digest M.sz l (g + 1)) M (tgF f n i) l).1 = true) :
    Calls Tryd.prog 22 #[.pointer (some ⟨cb, 0, none⟩), .slice bo bn bc] w fun e w' => e = .returned (.int .i64 0) ∧ LV B T w' cb b (saveF (headK Sh.digest M.sz l (g + 1)) M (tgF f n i) l).2 f n (1 - i) l (g + 1) ∧ Below B w w' ∧ Keeps T w w' := by
  have hz := h.sz
  have hc : M.cache.length ≤ 1000 := by rw [h.cln]; exact Nat.zero_le _
  obtain ⟨a1, a2, a3, a4, _, _, _⟩ := h.pure.good hl hg hok
  have hsz := save_sz (headK Sh.digest M.sz l (g + 1)) M (tgF f n i) l
  have mk : ∀ X, CKR B T X cb b (saveF (headK Sh.digest M.sz l (g + 1)) M (tgF f n i) l).2 f n (1 - i) l (g + 1) true → LV B T X cb b (saveF (headK Sh.digest M.sz l (g + 1)) M (tgF f n i) l).2 f n (1 - i) l (g + 1) := fun X hX => ⟨hX, a2, a1, rng_save h.rng hlb (by omega), a4, by rw [a3]; exact h.reg, by rw [hsz]; exact h.sz⟩
  rcases h.ix with rfl | rfl
  · exact (save_st0y h.st t hin hlb hl hg hz.2 hfn hz.1 hc hG hB2 hok).mono fun e w' ⟨q1, q2, q3, q4⟩ => ⟨q1, mk w' q2, q3, q4⟩
  · exact (save_st1y h.st t hin hlb hl hg hz.2 hfn hz.1 hc hG hB2 hok).mono fun e w' ⟨q1, q2, q3, q4⟩ => ⟨q1, mk w' q2, q3, q4⟩
/-- Save of a live store: interrupted. -/
theorem LV.save_bad {bo : Option Addr} {bn bc : Nat} (h : LV B T w cb b M f n i c g) (t : TR B T w) (hin : CR T w (.slice bo bn bc) l) (hlb : Byt l) (hl : l.length ≤ (n - 1) * M.sz) (hg : g < maxG) (hG : Sh.Glob w) (hB2 : 2 ≤ B) (hfn : f + n ≤ 60000) (hok : (saveF (headK Sh.digest M.sz l (g + 1)) M (tgF f n i) l).1 = false) :
    Calls Tryd.prog 22 #[.pointer (some ⟨cb, 0, none⟩), .slice bo bn bc] w fun e w' => e = .returned (.int .i64 8) ∧ DV B T w' cb b (saveF (headK Sh.digest M.sz l (g + 1)) M (tgF f n i) l).2 f n i c g l ∧ Below B w w' ∧ Keeps T w w' := by
  have hz := h.sz
  have hc : M.cache.length ≤ 1000 := by rw [h.cln]; exact Nat.zero_le _
  obtain ⟨a1, a2, a3⟩ := h.pure.torn hl hg hok
  have hsz := save_sz (headK Sh.digest M.sz l (g + 1)) M (tgF f n i) l
  have hcc : (saveF (headK Sh.digest M.sz l (g + 1)) M (tgF f n i) l).2.cache.length ≤ 100000 := by
    have h1 := cache_run (savO (headK Sh.digest M.sz l (g + 1)) (tgF f n i) M.sz l) M
    rw [savO_len] at h1
    have h2 : (l.length + M.sz - 1) / M.sz ≤ l.length + M.sz - 1 := Nat.div_le_self _ _
    have h3 := h.ok.sz
    unfold saveF
    omega
  have mk : ∀ X, CKR B T X cb b (saveF (headK Sh.digest M.sz l (g + 1)) M (tgF f n i) l).2 f n i c g false → DV B T X cb b (saveF (headK Sh.digest M.sz l (g + 1)) M (tgF f n i) l).2 f n i c g l := fun X hX => ⟨hX, a1, rng_save h.rng hlb (by omega), hcc, a3, by rw [a2]; exact h.reg, by rw [hsz]; exact h.sz⟩
  rcases h.ix with rfl | rfl
  · exact (save_st0n h.st t hin hlb hl hg hz.2 hfn hz.1 hc hG hB2 hok).mono fun e w' ⟨q1, q2, q3, q4⟩ => ⟨q1, mk w' q2, q3, q4⟩
  · exact (save_st1n h.st t hin hlb hl hg hz.2 hfn hz.1 hc hG hB2 hok).mono fun e w' ⟨q1, q2, q3, q4⟩ => ⟨q1, mk w' q2, q3, q4⟩
theorem nw_fail {M : DM} (m : Int) (f n : Nat) : nwD (failF M m) f n = nwD M f n := by
  have e : flat (failF M m) = { flat M with cnt := (failF M m).cnt } := by
    unfold failF
    split
    · rfl
    · rfl
  have h : ∀ f, slD (failF M m) f n = slD M f n := fun f => by
    unfold slD bodC
    rw [e]
  unfold nwD
  rw [h, h]
theorem LV.fail (h : LV B T w cb b M f n i c g) (t : TR B T w) (m : Int) (hm : R64 m) :
    Calls Tryd.prog 25 #[.pointer (some ⟨b, 0, none⟩), .int .i64 m] w fun e w' => e = .returned (.tuple #[]) ∧ LV B T w' cb b (failF M m) f n i c g ∧ Below B w w' ∧ Keeps T w w' := by
  refine (h.st.fail t m hm).mono fun e w' ⟨q1, q2, q3, q4⟩ => ⟨q1, ⟨q2, ?_, ?_, rng_fail h.rng m, by rw [nw_fail]; exact h.nw, ?_, ?_⟩, q3, q4⟩
  · unfold failF; split; exact h.cln; exact h.cln
  · unfold failF; split; exact h.on; exact h.on
  · unfold failF; split; exact h.reg; exact h.reg
  · unfold failF; split; exact h.sz; exact h.sz
/-- An opening of a clean disk whose power is on. -/
theorem lv_open {ct : Nat} (h : DR B T w b M) (t : TR B T w) (hreg : f + ct ≤ M.secs.length ∧ 4 ≤ ct) (hz1 : 64 ≤ M.sz) (hR : (ct / 2 - 1) * M.sz ≤ 30000) (ho : M.off = false) (hc : M.cache = []) (hr : RngM M) (hG : Sh.Glob w) :
    Calls Tryd.prog 14 #[.pointer (some ⟨b, 0, none⟩), .int .i64 f, .int .i64 ct] w fun e w' => ∃ cb, e = .returned (.tuple #[.pointer (some ⟨cb, 0, none⟩), .int .i64 0]) ∧ LV B T w' cb b M f (ct / 2) (nwD M f (ct / 2)).2.2 (nwD M f (ct / 2)).1 (nwD M f (ct / 2)).2.1 ∧ Below w.heap.size w w' :=
  (open_yes h t hreg hz1 ho (by rw [hc]; exact Nat.zero_le _) hr hG).mono fun e w' ⟨cb, q1, q2, q3⟩ => ⟨cb, q1, ⟨q2, hc, ho, hr, rfl, ⟨by omega, by omega⟩, ⟨hz1, hR⟩⟩, q3⟩
end
end Go.Proofs.YtlffiebnieakjaaDoor

/- Rows of bytes that came in. -/
namespace Go.Proofs.YtlffiebnieakjaaDoor.Sh
open Go.RowKit

theorem Glob.at {w w' : World} (h : Glob w) (hb : Below w.heap.size w w') : Glob w' := h.bel hb h.two
theorem Lies.at {w w' : World} {v : Value} {l : List Int} (h : Lies w v l) (hb : Below w.heap.size w w') : Lies w' v l := h.later hb (Nat.le_refl _)

/-- What the walk is told of a slice of integers that came in. -/
def IsRow (k : IntKind) (w : World) (a : Option Addr) (len cap : Nat) (zs : List Int) : Prop :=
  (a = none ∧ len = 0 ∧ cap = 0 ∧ zs = []) ∨
  ∃ x, a = some x ∧ len ≤ cap ∧ cap ≤ maxLen ∧ zs.length = cap ∧ (∀ i, i < zs.length → w.cell? (x.add i) = some (.int k (zs.getD i 0))) ∧ ∀ n ∈ zs, (Lit.int k n).wf = true

theorem spot_none {w : World} {x : Addr} {u : Value} (h : w.cell? x = some u) : x = ⟨x.block, x.off, none⟩ := by
  obtain ⟨b, o, s⟩ := x
  cases s with
  | none => rfl
  | some s =>
    exfalso
    unfold World.cell? at h
    split at h <;> simp at h

/-- A row of bytes that came in, as a list. -/
theorem IsRow.lies {w : World} {a : Option Addr} {len cap : Nat} {zs : List Int} (h : IsRow .u8 w a len cap zs) :
    ∃ l : List Int, l.length = len ∧ (∀ y ∈ l, 0 ≤ y ∧ y ≤ 255) ∧ Lies w (.slice a len cap) l := by
  rcases h with ⟨rfl, rfl, rfl, rfl⟩ | ⟨x, rfl, h1, h2, h3, h4, h5⟩
  · exact ⟨[], rfl, by simp, none, 0, rfl, by simp, by omega, fun h => by simp at h⟩
  · unfold maxLen at h2
    have htl : (zs.take len).length = len := by rw [List.length_take]; omega
    refine ⟨zs.take len, htl, fun y hy => bounds_u8 (h5 y (List.mem_of_mem_take hy)), some x, cap, by rw [htl], by omega, by omega, fun h0 => ?_⟩
    rw [htl] at h0
    have h6 := h4 0 (by omega)
    rw [show x.add 0 = x by rfl] at h6
    have hx := spot_none h6
    refine ⟨x.block, x.off, by rw [← hx], World.block_lt_of_cell? w _ h6, fun j u hu => ?_⟩
    have hj : j < len := by
      have := (List.getElem?_eq_some_iff.1 hu).1
      simp [bs] at this; omega
    have h7 := h4 j (by omega)
    rw [hx, Addr.add_mid] at h7
    rw [h7]
    simp only [bs, List.getElem?_map, List.getElem?_take, hj, if_true] at hu
    rw [List.getElem?_eq_getElem (by omega)] at hu
    simp only [Option.map_some, Option.some.injEq] at hu
    rw [← hu]
    simp [List.getD, show j < zs.length by omega]

end Go.Proofs.YtlffiebnieakjaaDoor.Sh

/- Slices of the call's own, strings as bytes. -/
namespace Go.Proofs.YtlffiebnieakjaaDoor.Sh
open Go.RowKit

theorem Tryd.infoU8 : (Tryd.prog.info? 5).map (fun i => (i.zero, i.size, i.bytes)) = some (some (.int .u8 0), 1, 1) := by kernel_rfl
def strBytes (s : ByteArray) : List Int := s.data.toList.map fun b => (b.toNat : Int)
theorem strBytes_length (s : ByteArray) : (strBytes s).length = s.size := by simp [strBytes]
theorem strBytes_rng (s : ByteArray) : ∀ y ∈ strBytes s, 0 ≤ y ∧ y ≤ 255 := by
  intro y hy
  simp only [strBytes, List.mem_map] at hy
  obtain ⟨b, _, rfl⟩ := hy
  have := b.toNat_lt
  omega
theorem strBytes_at (s : ByteArray) (k : Nat) (h : k < s.size) : (strBytes s)[k]? = some ((s[k]).toNat : Int) := by
  have h2 : k < s.data.toList.length := by simpa using h
  simp only [strBytes, List.getElem?_map, List.getElem?_eq_getElem h2]
  rfl
theorem strOfNums_bytes (m : List Int) (h : ∀ y ∈ m, 0 ≤ y ∧ y ≤ 255) : strBytes (strOfNums m) = m := by
  unfold strBytes
  rw [strOfNums_data, List.map_map]
  refine (List.map_congr_left fun y hy => ?_).trans (List.map_id m)
  have := h y hy
  simp
  omega

theorem own_shape {w : World} {base e size n : Nat} {v : Value} {xs : List Value} (h : w.ownsRow base e size v n xs) : ∃ ao cap, v = .slice ao n cap := by
  rcases h.2 with ⟨h1, h2⟩ | ⟨g, cap, cur, h1, _⟩
  · exact ⟨none, 0, by rw [h1, h2]⟩
  · exact ⟨_, cap, h1⟩
/-- A slice of the call's own that holds l; below B the world is as w0 was. -/
def OS (B : Nat) (w0 w : World) (v : Value) (l : List Int) : Prop := B ≤ w0.heap.size ∧ Below B w0 w ∧ w.ownsRow B 5 1 v l.length (bs l)
theorem OS.size {B : Nat} {w0 w : World} {v : Value} {l : List Int} (h : OS B w0 w v l) : B ≤ w.heap.size := Nat.le_trans h.1 h.2.1.size
theorem OS.own {B : Nat} {w0 w : World} {v : Value} {l : List Int} (h : OS B w0 w v l) : w.ownsRow B 5 1 v l.length (bs l) := h.2.2
theorem OS.bel {B : Nat} {w0 w : World} {v : Value} {l : List Int} (h : OS B w0 w v l) : Below B w0 w := h.2.1
theorem OS.alloc {B : Nat} {w0 w : World} {v : Value} {l : List Int} (h : OS B w0 w v l) (o : Obj) : OS B w0 (w.alloc o) v l := ⟨h.1, h.2.1.alloc h.size _, h.2.2.alloc o⟩
theorem OS.drew {B : Nat} {w0 w : World} {v : Value} {l : List Int} (h : OS B w0 w v l) : OS B w0 w.drew v l := ⟨h.1, h.2.1.drew, h.2.2.drew⟩
/-- Behind an append. -/
theorem OS.app {B n : Nat} {w0 w w' : World} {v v' : Value} {l m : List Int} (h : OS B w0 w v l) (hown : w'.ownsRow B 5 1 v' n (bs l ++ bs m)) (hn : n = l.length + m.length) (hg : w.grownBy w' v.ownBlock) : OS B w0 w' v' (l ++ m) := by
  subst hn
  refine ⟨h.1, h.2.1.grown hg h.size (fun k hk => (h.own.lt k hk).1), ?_⟩
  rw [bs_append, List.length_append]
  exact hown
theorem OS.src {B n cap : Nat} {w0 w : World} {ao : Option Addr} {l : List Int} (h : OS B w0 w (.slice ao n cap) l) : 0 < l.length → ∃ ad, ao = some ad ∧ ∀ j u, (bs l)[j]? = some u → w.cell? (ad.add j) = some u := by
  intro h0
  rcases h.own.2 with ⟨h1, h2⟩ | ⟨g, c, cur, h1, _, hg, _, _, _, ht⟩
  · omega
  · simp only [Value.slice.injEq] at h1
    refine ⟨_, h1.1, fun j u hu => World.news_of_block hg j u ?_⟩
    rw [← ht, List.getElem?_take] at hu
    split at hu
    · exact hu
    · cases hu
theorem os_made {w w1 : World} {n : Nat} {g : Nat} (hown : w1.ownsRow w.heap.size 5 1 (.slice (some ⟨g, 0, none⟩) 0 n) 0 []) (hgrow : w.grownBy w1 none) : OS w.heap.size w w1 (.slice (some ⟨g, 0, none⟩) 0 n) [] :=
  ⟨Nat.le_refl _, (Below.refl _ _).grown hgrow (Nat.le_refl _) (fun k h => by cases h), hown⟩

end Go.Proofs.YtlffiebnieakjaaDoor.Sh

/- append of rows onto a slice of the call's own. -/
namespace Go.Proofs.YtlffiebnieakjaaDoor.Sh
open Go.RowKit

theorem bs_ones (l : List Int) : ∀ u ∈ bs l, u.oneCell' = true := bs_one l
theorem Lies.srcs {w : World} {v : Value} {l : List Int} (h : Lies w v l) : Src Tryd.prog 1 32 v l.length (bs l) w := by
  obtain ⟨ao, cap, rfl, h2, h3, h4⟩ := h
  cases ao with
  | none =>
    cases l with
    | nil => exact Src.ofNil _ Tryd.underlying32 cap
    | cons x r => obtain ⟨g, o, q, _⟩ := h4 (by simp); cases q
  | some a =>
    refine Src.ofSlice _ Tryd.underlying32 a l.length cap (bs l) (by simp [bs]) (fun j u hu => ?_) (bs_ones l)
    have h0 : 0 < l.length := by
      have := (List.getElem?_eq_some_iff.1 hu).1
      simp [bs] at this; omega
    obtain ⟨g, o, q1, q2, q3⟩ := h4 h0
    cases q1
    rw [Addr.add_mid]; exact q3 j u hu
theorem OS.lies {B n cap : Nat} {w0 w : World} {ao : Option Addr} {l : List Int} (h : OS B w0 w (.slice ao n cap) l) (hl : l.length ≤ 1000000000) : Lies w (.slice ao n cap) l := by
  rcases h.own.2 with ⟨h1, h2⟩ | ⟨g, c, cur, h1, _, hg, hnc, hcm, _, ht⟩
  · simp only [Value.slice.injEq] at h1
    obtain ⟨rfl, rfl, rfl⟩ := h1
    exact ⟨none, 0, by rw [← h2], by omega, by omega, fun h => by omega⟩
  · simp only [Value.slice.injEq] at h1
    obtain ⟨rfl, rfl, rfl⟩ := h1
    unfold maxLen at hcm
    refine ⟨_, _, rfl, hnc, by omega, fun h0 => ⟨g, 0, rfl, lt_of_block hg, fun j u hu => ?_⟩⟩
    have := World.news_of_block hg j u (by
      rw [← ht, List.getElem?_take] at hu
      split at hu
      · exact hu
      · cases hu)
    rw [Addr.add_mid] at this
    exact this
theorem os_empty (w : World) : OS w.heap.size w (w.alloc (.cells #[] 5)) (.slice (some ⟨w.heap.size, 0, none⟩) 0 0) [] :=
  ⟨Nat.le_refl _, bel_alloc w _, rfl, .inr ⟨w.heap.size, 0, #[], rfl, Nat.le_refl _, heap_alloc_new w _, Nat.le_refl _, by unfold maxLen; omega, rfl, rfl⟩⟩
theorem os_nil (w : World) : OS w.heap.size w w (.slice none 0 0) [] := ⟨Nat.le_refl _, Below.refl _ _, World.ownsRow_nil _ _ _ _⟩

/-- append of a row. -/
theorem wpList_app {ops : Array Oper} {rest : List Oper} {o : Oper} {a : Act} {Q : Exit → Act → World → Prop} (hgd : o.guard = none) (s x : Operand)
    (ho : o.op = .call { callee := .builtin .append, args := #[s, x], argTypes := #[32, 32] })
    {B : Nat} {w0 w : World} {v : Value} {l : List Int} (hv : a.eval s = v) (H : OS B w0 w v l) {vx : Value} {m : List Int} (hx : a.eval x = vx) (L : Lies w vx m) (hl : l.length + m.length ≤ 1000000000)
    (h : ∀ (ao : Option Addr) (n cap : Nat) (w' : World), n = l.length + m.length → OS B w0 w' (.slice ao n cap) (l ++ m) → wpList Tryd.prog ops Q rest (a.put o.dst (.slice ao n cap)) w') :
    wpList Tryd.prog ops Q (o :: rest) a w := by
  obtain ⟨i0, hi, hz0, hz1, hz2⟩ := info_parts Tryd.infoU8
  refine wpList_append_src _ hgd s x 32 32 ho B 5 i0 (.int .u8 0) 1 1 Tryd.underlying32 hi hz0 hz1 hz2 rfl (by decide) v l.length (bs l) hv H.own vx m.length (bs m) hx L.srcs (by unfold maxLen; omega) (by omega) H.size ?_
  intro v2 w2 hown hg _ _
  have H2 := H.app hown rfl hg
  obtain ⟨ao, cap, rfl⟩ := own_shape hown
  exact h ao _ cap w2 rfl (by rw [← List.length_append] at H2 ⊢; exact H2)

end Go.Proofs.YtlffiebnieakjaaDoor.Sh

/- The reference's rotr, constants, Padded. -/
namespace Go.Proofs.YtlffiebnieakjaaDoor.Sh
open Go.RowKit

theorem rrotr_any (x : Int) (n : Nat) (w : World) (hx : 0 ≤ x) (hx2 : x ≤ 4294967295) (hn : 1 ≤ n) (hn2 : n ≤ 31) :
    Calls Tryd.prog 61 #[.int .u32 x, .int .u64 n] w fun e w' => e = .returned (.int .u32 (rot x n)) ∧ w = w' := by
  go_enter Tryd.func61, Tryd.ntmps61
  go_wp2
  go_ret
  exact ⟨rfl, rfl⟩

def sliceLen : Value → Nat
  | .slice _ n _ => n
  | _ => 0
theorem zeros_more {n z m : Nat} (hm : m = n + 1 + z) (hz : z < zerosOf n) : ¬ ((m : Int) % 64 = 56) := by
  unfold zerosOf at hz; omega
theorem zeros_done {n z m : Nat} (hm : m = n + 1 + z) (hz : ¬ z < zerosOf n) (hz2 : z ≤ zerosOf n) : (m : Int) % 64 = 56 := by
  unfold zerosOf at hz hz2; omega
theorem zeros_le (n : Nat) : zerosOf n ≤ 63 := by unfold zerosOf; omega

/-- The first j bytes of the length in bits. -/
def pre8 (n j : Nat) : List Int := ([0, 0, 0, 0, 0, 0, ((n * 8 / 256 : Nat) : Int), ((n * 8 % 256 : Nat) : Int)] : List Int).take j
theorem pre8_len (n j : Nat) (h : j ≤ 8) : (pre8 n j).length = j := by unfold pre8; rw [List.length_take]; simp; omega
theorem pad_eq (n : Nat) (h : n ≤ 2300) : padOf n = 128 :: (List.replicate (zerosOf n) 0 ++ pre8 n 8) := by
  unfold padOf be8 pre8
  rw [show n * 8 / 4294967296 = 0 by omega, show n * 8 % 4294967296 = n * 8 by omega]
  rw [show n * 8 / 16777216 % 256 = 0 by omega, show n * 8 / 65536 % 256 = 0 by omega, show n * 8 / 256 % 256 = n * 8 / 256 by omega]
  rfl

set_option maxRecDepth 100000 in
set_option maxHeartbeats 1600000 in
theorem padded_any (l : List Int) (ao : Option Addr) (n cap : Nat) (w : World) (hl : l.length = n) (hL : Lies w (.slice ao n cap) l) (hn : n ≤ 2300) :
    Calls Tryd.prog 54 #[.slice ao n cap] w fun e w' => ∃ (xo : Option Addr) (c : Nat), e = .returned (.slice xo (l ++ padOf n).length c) ∧ OS w.heap.size w w' (.slice xo (l ++ padOf n).length c) (l ++ padOf n) := by
  have HL := hid_of hL
  have HN := hid_of hl
  have HZ := hid_of (zeros_le n)
  clear hL hl
  go_enter Tryd.func54, Tryd.ntmps54
  go_wp2_with (at_builtin; (first
    | ((with_reducible refine wpList_app rfl _ _ rfl (v := .slice (some ⟨w.heap.size, 0, none⟩) 0 0) rfl (os_empty w) (vx := .slice ao n cap) rfl (HL.out.at (bel_alloc _ _)) (by simp; rw [HN.out]; omega) ?_); intro xo1 n1 c1 w1 hn1 h1; obtain rfl : n = n1 := (by rw [hn1]; simp [HN.out]); have X1 : Hid (OS w.heap.size w w1 (.slice xo1 n c1) l) := hid_of h1; have L1 : Hid (Lies (w1.alloc (.cells #[.int .u8 128] 5)) (.slice (some ⟨w1.heap.size, 0, none⟩) 1 1) [128]) := hid_of (lies_new (l := [128]) (n := 1) (cs := #[.int .u8 128]) (m := (0, 0)) rfl rfl (by simp)); clear h1 hn1)
    | ((refine wpList_app rfl _ _ rfl (v := .slice xo1 n c1) rfl (X1.out.alloc _) (vx := .slice (some ⟨w1.heap.size, 0, none⟩) 1 1) rfl L1.out (by rw [HN.out]; simp; omega) ?_); intro xo2 n2 c2 w2 hn2 h2; obtain rfl : n2 = n + 1 := (by rw [hn2, HN.out]; rfl); have X2 : Hid (OS w.heap.size w w2 (.slice xo2 (n + 1) c2) (l ++ [128])) := hid_of h2; clear h2 hn2)))
  go_loopw [3] (fun tv wr => ∃ (z m : Nat) (xo : Option Addr) (xc : Nat), z ≤ zerosOf n ∧ tv = .slice xo m xc ∧ Hid (m = n + 1 + z) ∧ Hid (OS w.heap.size w wr (.slice xo m xc) (l ++ 128 :: List.replicate z 0))) (fun tv _ => n + 1 + zerosOf n - sliceLen tv)
  case atStart => exact ⟨0, n + 1, xo2, c2, Nat.zero_le _, rfl, hid_of rfl, X2⟩
  case round =>
    obtain ⟨z, m, xo, xc, hz, rfl, hm, hos⟩ := hrel
    have HLEN : Hid ((l ++ 128 :: List.replicate z 0).length = m) := hid_of (by rw [hm.out]; simp [HN.out]; omega)
    have hm2 : m ≤ 2400 := by have := hm.out; have := HZ.out; omega
    by_cases hlt : z < zerosOf n
    · have h56 := zeros_more hm.out hlt
      have LZ : Hid (Lies (wr.alloc (.cells #[.int .u8 0] 5)) (.slice (some ⟨wr.heap.size, 0, none⟩) 1 1) [0]) := hid_of (lies_new (l := [0]) (n := 1) (cs := #[.int .u8 0]) (m := (0, 0)) rfl rfl (by simp))
      go_wp2_with (at_builtin; ((refine wpList_app rfl _ _ rfl (v := .slice xo m xc) rfl (hos.out.alloc _) (vx := .slice (some ⟨wr.heap.size, 0, none⟩) 1 1) rfl LZ.out (by rw [HLEN.out]; simp; omega) ?_); intro xo3 n3 c3 w3 hn3 h3; obtain rfl : n3 = m + 1 := (by rw [hn3, HLEN.out]; rfl); have X3 : Hid (OS w.heap.size w w3 (.slice xo3 (m + 1) c3) (l ++ 128 :: List.replicate (z + 1) 0)) := hid_of (by rw [List.replicate_succ', ← List.cons_append, ← List.append_assoc]; exact h3); clear h3 hn3))
      go_roundw
      case rel => exact ⟨z + 1, m + 1, xo3, c3, by omega, rfl, hid_of (by have := hm.out; omega), X3⟩
      case measure => simp [sliceLen]; have := hm.out; omega
    · have h56 := zeros_done hm.out hlt hz
      obtain rfl : z = zerosOf n := by omega
      have h8k : (n : Int) ≤ 2300 := by omega
      go_wp2
      clear h56 hlt hz
      go_loopw [3, 5] (fun tv iv wr => ∃ (j m : Nat) (d : Int) (xo : Option Addr) (xc : Nat), (j = 0 ∧ d = 56 ∨ j = 1 ∧ d = 48 ∨ j = 2 ∧ d = 40 ∨ j = 3 ∧ d = 32 ∨ j = 4 ∧ d = 24 ∨ j = 5 ∧ d = 16 ∨ j = 6 ∧ d = 8 ∨ j = 7 ∧ d = 0 ∨ j = 8 ∧ d = -8) ∧ tv = .slice xo m xc ∧ iv = .int .i64 d ∧ Hid (m = n + 1 + zerosOf n + j) ∧ Hid (OS w.heap.size w wr (.slice xo m xc) (l ++ 128 :: List.replicate (zerosOf n) 0 ++ pre8 n j))) (fun tv _ _ => n + 1 + zerosOf n + 8 - sliceLen tv)
      case atStart => exact ⟨0, m, 56, xo, xc, .inl ⟨rfl, rfl⟩, rfl, rfl, hid_of hm.out, hid_of (by rw [show pre8 n 0 = [] from rfl, List.append_nil]; exact hos.out)⟩
      case round =>
        obtain ⟨j, m2, d, xo2, xc2, hjd, rfl, rfl, hm2, hos2⟩ := hrel
        have HLEN2 : Hid ((l ++ 128 :: List.replicate (zerosOf n) 0 ++ pre8 n j).length = m2) := hid_of (by rw [hm2.out, List.length_append, pre8_len n j (by omega)]; simp [HN.out]; omega)
        have hm3 : m2 ≤ 2400 := by have := hm2.out; have := HZ.out; omega
        have f0 : (n : Int) * 8 / 72057594037927936 = 0 := by omega
        have f1 : (n : Int) * 8 / 281474976710656 = 0 := by omega
        have f2 : (n : Int) * 8 / 1099511627776 = 0 := by omega
        have f3 : (n : Int) * 8 / 4294967296 = 0 := by omega
        have f4 : (n : Int) * 8 / 16777216 = 0 := by omega
        have f5 : (n : Int) * 8 / 65536 = 0 := by omega
        rcases hjd with ⟨rfl, rfl⟩ | ⟨rfl, rfl⟩ | ⟨rfl, rfl⟩ | ⟨rfl, rfl⟩ | ⟨rfl, rfl⟩ | ⟨rfl, rfl⟩ | ⟨rfl, rfl⟩ | ⟨rfl, rfl⟩ | ⟨rfl, rfl⟩
        · have LZ := hid_of (lies_new (w := wr) (l := [0]) (n := 1) (cs := #[.int .u8 (0)]) (m := (0, 0)) rfl rfl (by simp))
          have HP : Hid (pre8 n 1 = pre8 n 0 ++ [0]) := hid_of (by rfl)
          go_wp2_with (at_builtin; ((refine wpList_app rfl _ _ rfl (v := .slice xo2 m2 xc2) rfl (hos2.out.alloc _) (vx := .slice (some ⟨wr.heap.size, 0, none⟩) 1 1) rfl LZ.out (by rw [HLEN2.out]; simp; omega) ?_); intro xo3 n3 c3 w3 hn3 h3; obtain rfl : n3 = m2 + 1 := (by rw [hn3, HLEN2.out]; rfl); have X3 : Hid (OS w.heap.size w w3 (.slice xo3 (m2 + 1) c3) (l ++ 128 :: List.replicate (zerosOf n) 0 ++ pre8 n 1)) := hid_of (by rw [HP.out, ← List.append_assoc]; exact h3); clear h3 hn3))
          go_roundw
          case rel => exact ⟨1, m2 + 1, 48, xo3, c3, by omega, rfl, by go_num, hid_of (by have := hm2.out; omega), X3⟩
          case measure => simp [sliceLen]; have := hm2.out; omega
        · have LZ := hid_of (lies_new (w := wr) (l := [0]) (n := 1) (cs := #[.int .u8 (0)]) (m := (0, 0)) rfl rfl (by simp))
          have HP : Hid (pre8 n 2 = pre8 n 1 ++ [0]) := hid_of (by rfl)
          go_wp2_with (at_builtin; ((refine wpList_app rfl _ _ rfl (v := .slice xo2 m2 xc2) rfl (hos2.out.alloc _) (vx := .slice (some ⟨wr.heap.size, 0, none⟩) 1 1) rfl LZ.out (by rw [HLEN2.out]; simp; omega) ?_); intro xo3 n3 c3 w3 hn3 h3; obtain rfl : n3 = m2 + 1 := (by rw [hn3, HLEN2.out]; rfl); have X3 : Hid (OS w.heap.size w w3 (.slice xo3 (m2 + 1) c3) (l ++ 128 :: List.replicate (zerosOf n) 0 ++ pre8 n 2)) := hid_of (by rw [HP.out, ← List.append_assoc]; exact h3); clear h3 hn3))
          go_roundw
          case rel => exact ⟨2, m2 + 1, 40, xo3, c3, by omega, rfl, by go_num, hid_of (by have := hm2.out; omega), X3⟩
          case measure => simp [sliceLen]; have := hm2.out; omega
        · have LZ := hid_of (lies_new (w := wr) (l := [0]) (n := 1) (cs := #[.int .u8 (0)]) (m := (0, 0)) rfl rfl (by simp))
          have HP : Hid (pre8 n 3 = pre8 n 2 ++ [0]) := hid_of (by rfl)
          go_wp2_with (at_builtin; ((refine wpList_app rfl _ _ rfl (v := .slice xo2 m2 xc2) rfl (hos2.out.alloc _) (vx := .slice (some ⟨wr.heap.size, 0, none⟩) 1 1) rfl LZ.out (by rw [HLEN2.out]; simp; omega) ?_); intro xo3 n3 c3 w3 hn3 h3; obtain rfl : n3 = m2 + 1 := (by rw [hn3, HLEN2.out]; rfl); have X3 : Hid (OS w.heap.size w w3 (.slice xo3 (m2 + 1) c3) (l ++ 128 :: List.replicate (zerosOf n) 0 ++ pre8 n 3)) := hid_of (by rw [HP.out, ← List.append_assoc]; exact h3); clear h3 hn3))
          go_roundw
          case rel => exact ⟨3, m2 + 1, 32, xo3, c3, by omega, rfl, by go_num, hid_of (by have := hm2.out; omega), X3⟩
          case measure => simp [sliceLen]; have := hm2.out; omega
        · have LZ := hid_of (lies_new (w := wr) (l := [0]) (n := 1) (cs := #[.int .u8 (0)]) (m := (0, 0)) rfl rfl (by simp))
          have HP : Hid (pre8 n 4 = pre8 n 3 ++ [0]) := hid_of (by rfl)
          go_wp2_with (at_builtin; ((refine wpList_app rfl _ _ rfl (v := .slice xo2 m2 xc2) rfl (hos2.out.alloc _) (vx := .slice (some ⟨wr.heap.size, 0, none⟩) 1 1) rfl LZ.out (by rw [HLEN2.out]; simp; omega) ?_); intro xo3 n3 c3 w3 hn3 h3; obtain rfl : n3 = m2 + 1 := (by rw [hn3, HLEN2.out]; rfl); have X3 : Hid (OS w.heap.size w w3 (.slice xo3 (m2 + 1) c3) (l ++ 128 :: List.replicate (zerosOf n) 0 ++ pre8 n 4)) := hid_of (by rw [HP.out, ← List.append_assoc]; exact h3); clear h3 hn3))
          go_roundw
          case rel => exact ⟨4, m2 + 1, 24, xo3, c3, by omega, rfl, by go_num, hid_of (by have := hm2.out; omega), X3⟩
          case measure => simp [sliceLen]; have := hm2.out; omega
        · have LZ := hid_of (lies_new (w := wr) (l := [0]) (n := 1) (cs := #[.int .u8 (0)]) (m := (0, 0)) rfl rfl (by simp))
          have HP : Hid (pre8 n 5 = pre8 n 4 ++ [0]) := hid_of (by rfl)
          go_wp2_with (at_builtin; ((refine wpList_app rfl _ _ rfl (v := .slice xo2 m2 xc2) rfl (hos2.out.alloc _) (vx := .slice (some ⟨wr.heap.size, 0, none⟩) 1 1) rfl LZ.out (by rw [HLEN2.out]; simp; omega) ?_); intro xo3 n3 c3 w3 hn3 h3; obtain rfl : n3 = m2 + 1 := (by rw [hn3, HLEN2.out]; rfl); have X3 : Hid (OS w.heap.size w w3 (.slice xo3 (m2 + 1) c3) (l ++ 128 :: List.replicate (zerosOf n) 0 ++ pre8 n 5)) := hid_of (by rw [HP.out, ← List.append_assoc]; exact h3); clear h3 hn3))
          go_roundw
          case rel => exact ⟨5, m2 + 1, 16, xo3, c3, by omega, rfl, by go_num, hid_of (by have := hm2.out; omega), X3⟩
          case measure => simp [sliceLen]; have := hm2.out; omega
        · have LZ := hid_of (lies_new (w := wr) (l := [0]) (n := 1) (cs := #[.int .u8 (0)]) (m := (0, 0)) rfl rfl (by simp))
          have HP : Hid (pre8 n 6 = pre8 n 5 ++ [0]) := hid_of (by rfl)
          go_wp2_with (at_builtin; ((refine wpList_app rfl _ _ rfl (v := .slice xo2 m2 xc2) rfl (hos2.out.alloc _) (vx := .slice (some ⟨wr.heap.size, 0, none⟩) 1 1) rfl LZ.out (by rw [HLEN2.out]; simp; omega) ?_); intro xo3 n3 c3 w3 hn3 h3; obtain rfl : n3 = m2 + 1 := (by rw [hn3, HLEN2.out]; rfl); have X3 : Hid (OS w.heap.size w w3 (.slice xo3 (m2 + 1) c3) (l ++ 128 :: List.replicate (zerosOf n) 0 ++ pre8 n 6)) := hid_of (by rw [HP.out, ← List.append_assoc]; exact h3); clear h3 hn3))
          go_roundw
          case rel => exact ⟨6, m2 + 1, 8, xo3, c3, by omega, rfl, by go_num, hid_of (by have := hm2.out; omega), X3⟩
          case measure => simp [sliceLen]; have := hm2.out; omega
        · have LZ := hid_of (lies_new (w := wr) (l := [(n : Int) * 8 / 256]) (n := 1) (cs := #[.int .u8 ((n : Int) * 8 / 256)]) (m := (0, 0)) rfl rfl (by simp))
          have HP : Hid (pre8 n 7 = pre8 n 6 ++ [(n : Int) * 8 / 256]) := hid_of (by simp [pre8])
          go_wp2_with (at_builtin; ((refine wpList_app rfl _ _ rfl (v := .slice xo2 m2 xc2) rfl (hos2.out.alloc _) (vx := .slice (some ⟨wr.heap.size, 0, none⟩) 1 1) rfl LZ.out (by rw [HLEN2.out]; simp; omega) ?_); intro xo3 n3 c3 w3 hn3 h3; obtain rfl : n3 = m2 + 1 := (by rw [hn3, HLEN2.out]; rfl); have X3 : Hid (OS w.heap.size w w3 (.slice xo3 (m2 + 1) c3) (l ++ 128 :: List.replicate (zerosOf n) 0 ++ pre8 n 7)) := hid_of (by rw [HP.out, ← List.append_assoc]; exact h3); clear h3 hn3))
          go_roundw
          case rel => exact ⟨7, m2 + 1, 0, xo3, c3, by omega, rfl, by go_num, hid_of (by have := hm2.out; omega), X3⟩
          case measure => simp [sliceLen]; have := hm2.out; omega
        · have LZ := hid_of (lies_new (w := wr) (l := [(n : Int) * 8 % 256]) (n := 1) (cs := #[.int .u8 ((n : Int) * 8 % 256)]) (m := (0, 0)) rfl rfl (by simp))
          have HP : Hid (pre8 n 8 = pre8 n 7 ++ [(n : Int) * 8 % 256]) := hid_of (by simp [pre8])
          go_wp2_with (at_builtin; ((refine wpList_app rfl _ _ rfl (v := .slice xo2 m2 xc2) rfl (hos2.out.alloc _) (vx := .slice (some ⟨wr.heap.size, 0, none⟩) 1 1) rfl LZ.out (by rw [HLEN2.out]; simp; omega) ?_); intro xo3 n3 c3 w3 hn3 h3; obtain rfl : n3 = m2 + 1 := (by rw [hn3, HLEN2.out]; rfl); have X3 : Hid (OS w.heap.size w w3 (.slice xo3 (m2 + 1) c3) (l ++ 128 :: List.replicate (zerosOf n) 0 ++ pre8 n 8)) := hid_of (by rw [HP.out, ← List.append_assoc]; exact h3); clear h3 hn3))
          go_roundw
          case rel => exact ⟨8, m2 + 1, -8, xo3, c3, by omega, rfl, by go_num, hid_of (by have := hm2.out; omega), X3⟩
          case measure => simp [sliceLen]; have := hm2.out; omega
        · go_wp2
          go_ret
          have hfin : l ++ 128 :: List.replicate (zerosOf n) 0 ++ pre8 n 8 = l ++ padOf n := by rw [pad_eq n hn, List.append_assoc, List.cons_append]
          have h1 := HLEN2.out
          have h2 := hos2.out
          rw [hfin] at h1 h2
          rw [h1]
          exact ⟨xo2, xc2, rfl, h2⟩
end Go.Proofs.YtlffiebnieakjaaDoor.Sh

/- The reference's constants. -/
namespace Go.Proofs.YtlffiebnieakjaaDoor.Sh
open Go.RowKit

/-- An operation whose value is known. -/
theorem wpList_value {P : Program} {ops : Array Oper} {rest : List Oper} {o : Oper} {a : Act} {w : World} {Q : Exit → Act → World → Prop} (hgd : o.guard = none) (t : TypeId) (parts : Array (Nat × Operand)) (_ho : o.op = .build t parts) (v : Value)
    (hr : (execOp a.eval o).run P w = .ok (.value v) w) (h : wpList P ops Q rest (a.put o.dst v) w) : wpList P ops Q (o :: rest) a w :=
  wpList_plain hgd fun K hK => by unfold Oper.wp; rw [hr, Oper.upon_value]; exact hK _ _ h

set_option maxRecDepth 100000 in
set_option maxHeartbeats 1600000 in
theorem rconst_any (w : World) :
    Calls Tryd.prog 62 #[] w fun e w' => e = .returned (.agg (ws KON).toArray) ∧ Below w.heap.size w w' := by
  obtain ⟨arr, harr⟩ : ∃ arr, arr = (ws KON).toArray := ⟨_, rfl⟩
  have HARR := hid_of harr
  have HSZ : Hid (arr.size = 64) := hid_of (by rw [harr]; rfl)
  have HI : Hid ((Tryd.prog.info? 102).map (·.size) = some arr.size) := hid_of (by rw [HSZ.out]; exact Tryd.info64)
  have H1 : Hid (arr.all (·.oneCell') = true) := hid_of (by rw [harr]; exact ws_one _)
  rw [← harr]
  clear harr
  go_enter Tryd.func62, Tryd.ntmps62
  go_wp2_with (first
    | (refine wpList_value rfl 102 _ rfl (.agg arr) (by rw [HARR.out]; kernel_rfl) ?_)
    | (refine wpList_store_fresh rfl 102 (.tmp 0) (.tmp 1) rfl _ arr rfl rfl rfl _ HI.out (by rw [HSZ.out]; rfl) H1.out ?_))
  refine bodyPost_ret (results_cell_row rfl _ _ w.heap.size 102 _ (0, 0) _ rfl (heap_alloc_new _ _) Tryd.underlying102 rfl HI.out) rfl ⟨rfl, ?_⟩
  exact bel_alloc _ _
end Go.Proofs.YtlffiebnieakjaaDoor.Sh

/- The reference's block. Bounds on the words. -/
namespace Go.Proofs.YtlffiebnieakjaaDoor.Sh
open Go.RowKit

theorem rrot_at (x : Int) (m : Int) (n : Nat) (w : World) (hx : W32 x) (hm : m = n) (hn : 1 ≤ n) (hn2 : n ≤ 31) :
    Calls Tryd.prog 61 #[.int .u32 x, .int .u64 m] w fun e w' => e = .returned (.int .u32 (rot x n)) ∧ w = w' := by
  subst hm; exact rrotr_any x n w hx.1 hx.2 hn hn2

/-- Where the reference's block stands: the box of the state, the result's block, the words. -/
structure RefW (w w2 : World) (s : R8) (l : List Int) : Prop where
  box : w2.heap[w.heap.size]? = some (.cells s.vals 94 (0, 0))
  res : w2.heap[w.heap.size + 1]? = some (.cells (ws (List.replicate 8 0)).toArray 94 (0, 0))
  row : Wrow w2 (w.heap.size + 2) l
  bel : Below w.heap.size w w2
  sz : w.heap.size + 2 < w2.heap.size
theorem RefW.drew {w w2 : World} {s : R8} {l : List Int} (h : RefW w w2 s l) : RefW w w2.drew s l := ⟨h.box, h.res, h.row, h.bel.drew, h.sz⟩
theorem RefW.drewN {w w2 : World} {s : R8} {l : List Int} (h : RefW w w2 s l) (n : Nat) : RefW w (w2.drewN n) s l := ⟨h.box, h.res, h.row, ⟨h.bel.os, h.bel.tape, h.bel.output, h.bel.size, h.bel.block⟩, h.sz⟩
theorem RefW.set {w w2 : World} {s : R8} {l l' : List Int} {k : Nat} {z : Int} (h : RefW w w2 s l) (hk : l.length = k) (hk2 : k < 64) (hz : W32 z) (hl' : l' = l ++ [z]) : RefW w (w2.setCell ⟨w.heap.size + 2, k, none⟩ (.int .u32 z)) s l' :=
  ⟨(Below.heap_setCell _ _ _ _ (by show w.heap.size ≠ w.heap.size + 2; omega)).trans h.box, (Below.heap_setCell _ _ _ _ (by show w.heap.size + 1 ≠ w.heap.size + 2; omega)).trans h.res, h.row.set hk hk2 hz hl', h.bel.setCell (by show w.heap.size ≤ w.heap.size + 2; omega) _, by have := h.sz; show _ < (w2.heap.modify _ _).size; rw [Array.size_modify]; exact this⟩
theorem refw_start (w : World) (s : R8) : RefW w (((w.alloc (.cells s.vals 94)).alloc (.cells (ws (List.replicate 8 0)).toArray 94)).alloc (.cells (ws (List.replicate 64 0)).toArray 102)) s [] := by
  refine ⟨?_, ?_, ⟨by simp, by simp, ?_⟩, (bel_two _ _).alloc (by simp; omega) _, by simp⟩
  · rw [Below.heap_alloc _ _ _ (by simp; omega), heap_alloc2_old]
  · rw [Below.heap_alloc _ _ _ (by simp), heap_alloc2_new]
  · have := heap_alloc_new ((w.alloc (.cells s.vals 94)).alloc (.cells (ws (List.replicate 8 0)).toArray 94)) (.cells (ws (List.replicate 64 0)).toArray 102)
    simpa using this

theorem Wrow.later {w w' : World} {g : Nat} {l : List Int} (h : Wrow w g l) (hb : Below w.heap.size w w') : Wrow w' g l := ⟨h.1, h.2.1, (hb.block g (lt_of_block h.2.2)).trans h.2.2⟩
theorem RefW.later {w w1 w2 : World} {s : R8} {l : List Int} (h : RefW w w1 s l) (hb : Below w1.heap.size w1 w2) : RefW w w2 s l :=
  ⟨(hb.block _ (lt_of_block h.box)).trans h.box, (hb.block _ (lt_of_block h.res)).trans h.res, h.row.later hb, h.bel.trans (hb.mono h.bel.size), Nat.lt_of_lt_of_le h.sz hb.size⟩
/-- The constants beside them. -/
structure RefK (w w2 : World) (s : R8) (l : List Int) (g : Nat) (kon : Array Value) : Prop where
  base : RefW w w2 s l
  krow : w2.heap[g]? = some (.cells kon 102 (0, 0))
theorem refk_start {w w1 w2 : World} {s : R8} {l : List Int} {kon : Array Value} (h : RefW w w1 s l) (hb : Below w1.heap.size w1 w2) : RefK w (w2.alloc (.cells kon 102)) s l w2.heap.size kon :=
  ⟨(h.later hb).later (bel_alloc _ _), heap_alloc_new _ _⟩
theorem RefW.boxes {w w2 : World} {s : R8} {l : List Int} (h : RefW w w2 s l) :
    w2.cell? ⟨w.heap.size, 0, none⟩ = some (.int .u32 s.a) ∧ w2.cell? ⟨w.heap.size, 1, none⟩ = some (.int .u32 s.b) ∧ w2.cell? ⟨w.heap.size, 2, none⟩ = some (.int .u32 s.c) ∧ w2.cell? ⟨w.heap.size, 3, none⟩ = some (.int .u32 s.d) ∧
    w2.cell? ⟨w.heap.size, 4, none⟩ = some (.int .u32 s.e) ∧ w2.cell? ⟨w.heap.size, 5, none⟩ = some (.int .u32 s.f) ∧ w2.cell? ⟨w.heap.size, 6, none⟩ = some (.int .u32 s.g) ∧ w2.cell? ⟨w.heap.size, 7, none⟩ = some (.int .u32 s.h) := by
  have q := fun j => cell_of_row _ _ j _ _ _ h.box
  exact ⟨q 0, q 1, q 2, q 3, q 4, q 5, q 6, q 7⟩

/-- The working variables beside them. -/
structure RefV (w w2 : World) (s : R8) (l : List Int) (gk : Nat) (kon : Array Value) (gv : Nat) (r : R8) : Prop where
  base : RefK w w2 s l gk kon
  vrow : w2.heap[gv]? = some (.cells r.vals 94 (0, 0))
  hk : w.heap.size + 2 < gk
  hv : gk < gv
theorem refv_start {w w2 : World} {s : R8} {l : List Int} {kon : Array Value} {gk : Nat} (h : RefK w w2 s l gk kon) (hk : w.heap.size + 2 < gk) : RefV w (w2.alloc (.cells s.vals 94)) s l gk kon w2.heap.size s :=
  ⟨⟨h.base.later (bel_alloc _ _), ((bel_alloc _ _).block _ (lt_of_block h.krow)).trans h.krow⟩, heap_alloc_new _ _, hk, lt_of_block h.krow⟩
theorem RefV.drewN {w w2 : World} {s : R8} {l : List Int} {gk gv : Nat} {kon : Array Value} {r : R8} (h : RefV w w2 s l gk kon gv r) (n : Nat) : RefV w (w2.drewN n) s l gk kon gv r :=
  ⟨⟨h.base.base.drewN n, h.base.krow⟩, h.vrow, h.hk, h.hv⟩
theorem RefV.setRow {w w2 : World} {s : R8} {l : List Int} {gk gv : Nat} {kon : Array Value} {r r2 : R8} {cs : Array Value} (h : RefV w w2 s l gk kon gv r) (hc : cs = r2.vals) : RefV w (w2.setRow gv cs) s l gk kon gv r2 := by
  subst hc
  have hk := h.hk
  have hv := h.hv
  have ho : ∀ k, k ≠ gv → (w2.setRow gv r2.vals).heap[k]? = w2.heap[k]? := fun k hk => setRow_other w2 gv k _ hk
  refine ⟨⟨⟨(ho _ (by omega)).trans h.base.base.box, (ho _ (by omega)).trans h.base.base.res, ⟨h.base.base.row.1, h.base.base.row.2.1, (ho _ (by omega)).trans h.base.base.row.2.2⟩, below_setRow h.base.base.bel (by omega) _, by have := h.base.base.sz; simpa using this⟩, (ho _ (by omega)).trans h.base.krow⟩, setRow_heap _ _ _ _ _ _ h.vrow, h.hk, h.hv⟩
theorem RefV.vs {w w2 : World} {s : R8} {l : List Int} {gk gv : Nat} {kon : Array Value} {r : R8} (h : RefV w w2 s l gk kon gv r) :
    w2.cell? ⟨gv, 0, none⟩ = some (.int .u32 r.a) ∧ w2.cell? ⟨gv, 1, none⟩ = some (.int .u32 r.b) ∧ w2.cell? ⟨gv, 2, none⟩ = some (.int .u32 r.c) ∧ w2.cell? ⟨gv, 3, none⟩ = some (.int .u32 r.d) ∧
    w2.cell? ⟨gv, 4, none⟩ = some (.int .u32 r.e) ∧ w2.cell? ⟨gv, 5, none⟩ = some (.int .u32 r.f) ∧ w2.cell? ⟨gv, 6, none⟩ = some (.int .u32 r.g) ∧ w2.cell? ⟨gv, 7, none⟩ = some (.int .u32 r.h) := by
  have q := fun j => cell_of_row _ _ j _ _ _ h.vrow
  exact ⟨q 0, q 1, q 2, q 3, q 4, q 5, q 6, q 7⟩
theorem RefV.kc {w w2 : World} {s : R8} {l : List Int} {gk gv : Nat} {r : R8} {t : Nat} (h : RefV w w2 s l gk (ws KON).toArray gv r) (ht : t < 64) : w2.cell? ⟨gk, t, none⟩ = some (.int .u32 (KON.getD t 0)) := by
  rw [cell_of_row _ _ _ _ _ _ h.base.krow]
  have hl : KON.length = 64 := rfl
  simp [ws, List.getD, List.getElem?_eq_getElem (show t < KON.length by omega)]

theorem vals_eq {a b c d e f g h a2 b2 c2 d2 e2 f2 g2 h2 : Int} (ha : a = a2) (hb : b = b2) (hc : c = c2) (hd : d = d2) (he : e = e2) (hf : f = f2) (hg : g = g2) (hh : h = h2) :
    (#[.int .u32 a, .int .u32 b, .int .u32 c, .int .u32 d, .int .u32 e, .int .u32 f, .int .u32 g, .int .u32 h] : Array Value) = #[.int .u32 a2, .int .u32 b2, .int .u32 c2, .int .u32 d2, .int .u32 e2, .int .u32 f2, .int .u32 g2, .int .u32 h2] := by
  subst ha hb hc hd he hf hg hh; rfl
def lst (s : R8) : List Int := [s.a, s.b, s.c, s.d, s.e, s.f, s.g, s.h]
theorem lst_vals (s : R8) : (ws (lst s)).toArray = s.vals := rfl
/-- The sums of the first i words. -/
def sumL (sl rl : List Int) (i : Nat) : List Int := (List.range 8).map fun j => if j < i then ad (sl.getD j 0) (rl.getD j 0) else rl.getD j 0
theorem sumL_zero (sl : List Int) (r : R8) : sumL sl (lst r) 0 = lst r := rfl
theorem sumL_at (sl rl : List Int) {i : Nat} (h : i < 8) : (sumL sl rl i)[i]? = some (rl.getD i 0) := by simp [sumL, h]
theorem sumL_set (sl rl : List Int) {i : Nat} (h : i < 8) : (sumL sl rl i).set i (ad (sl.getD i 0) (rl.getD i 0)) = sumL sl rl (i + 1) := by
  apply List.ext_getElem
  · simp [sumL]
  · intro j h1 h2
    simp [sumL] at h1 h2
    simp only [sumL, List.getElem_set, List.getElem_map, List.getElem_range]
    by_cases e : i = j
    · subst e; simp
    · by_cases hj : j < i
      · simp [e, hj, show j < i + 1 by omega]
      · simp [e, hj, show ¬ j < i + 1 by omega]
theorem sumL_all (s r : R8) : (ws (sumL (lst s) (lst r) 8)).toArray = (R8.mk (ad s.a r.a) (ad s.b r.b) (ad s.c r.c) (ad s.d r.d) (ad s.e r.e) (ad s.f r.f) (ad s.g r.g) (ad s.h r.h)).vals := rfl
theorem rb_setCell {w : World} {g k t : Nat} {cur : List Value} {u : Value} (h : w.heap[g]? = some (.cells cur.toArray t (0, 0))) :
    (w.setCell ⟨g, k, none⟩ u).heap[g]? = some (.cells (cur.set k u).toArray t (0, 0)) := by
  have hlt := lt_of_block h
  have h' : w.heap[g] = .cells cur.toArray t (0, 0) := by simpa [Array.getElem?_eq_getElem hlt] using h
  show (w.heap.modify g _)[g]? = _
  rw [Array.getElem?_eq_getElem (by simpa using hlt), Array.getElem_modify_self, h']
  simp
/-- Where the last loop stands. -/
structure RefS (w w2 : World) (s : R8) (gv : Nat) (vl : List Int) : Prop where
  box : w2.heap[w.heap.size]? = some (.cells s.vals 94 (0, 0))
  res : w2.heap[w.heap.size + 1]? = some (.cells (ws (List.replicate 8 0)).toArray 94 (0, 0))
  vrow : w2.heap[gv]? = some (.cells (ws vl).toArray 94 (0, 0))
  bel : Below w.heap.size w w2
  hv : w.heap.size + 1 < gv
theorem RefS.set {w w2 : World} {s : R8} {gv i : Nat} {vl vl2 : List Int} {z : Int} (h : RefS w w2 s gv vl) (he : vl.set i z = vl2) : RefS w (w2.setCell ⟨gv, i, none⟩ (.int .u32 z)) s gv vl2 := by
  subst he
  have hv := h.hv
  refine ⟨(Below.heap_setCell _ _ _ _ (by show w.heap.size ≠ gv; omega)).trans h.box, (Below.heap_setCell _ _ _ _ (by show w.heap.size + 1 ≠ gv; omega)).trans h.res, ?_, h.bel.setCell (by show w.heap.size ≤ gv; omega) _, h.hv⟩
  have := rb_setCell (k := i) (u := .int .u32 z) h.vrow
  rw [this]; congr 2; simp [ws, List.map_set]
theorem RefS.drew {w w2 : World} {s : R8} {gv : Nat} {vl : List Int} (h : RefS w w2 s gv vl) : RefS w w2.drew s gv vl := ⟨h.box, h.res, h.vrow, h.bel.drew, h.hv⟩

set_option maxRecDepth 100000 in
set_option maxHeartbeats 2400000 in
theorem rblock_any (s : R8) (b o cap : Nat) (B : List Int) (w : World) (hs : s.ok) (h : Bytes64 w b o B) :
    Calls Tryd.prog 55 #[.agg s.vals, .slice (some ⟨b, o, none⟩) 64 cap] w fun e w' => e = .returned (.agg (mixF s B).vals) ∧ Below w.heap.size w w' := by
  have HB := hid_of h
  have hb : b < w.heap.size := h.lt
  have HS := hid_of hs
  have HST := hid_of (refw_start w s)
  clear h hs
  unfold R8.vals
  go_enter Tryd.func55, Tryd.ntmps55
  go_wp2
  go_loopw [6] (fun iv wr => ∃ k : Nat, k ≤ 16 ∧ iv = .int .i64 k ∧ Hid (RefW w wr s (ext0 B k))) (fun i _ => 16 - (intOf i).toNat)
  case atStart => exact ⟨0, by omega, rfl, HST⟩
  case round =>
    obtain ⟨k, hk, rfl, hrow⟩ := hrel
    by_cases hlt : k < 16
    · go_wp2
      obtain ⟨m0, hm0⟩ : ∃ m : Nat, m = 4 * k := ⟨_, rfl⟩
      obtain ⟨m1, hm1⟩ : ∃ m : Nat, m = m0 + 1 := ⟨_, rfl⟩
      obtain ⟨m2, hm2⟩ : ∃ m : Nat, m = m0 + 2 := ⟨_, rfl⟩
      obtain ⟨m3, hm3⟩ : ∃ m : Nat, m = m0 + 3 := ⟨_, rfl⟩
      obtain ⟨y0, e0, l0, u0, d0⟩ := HB.out m0 (by omega)
      have c0 := (hrow.out.bel.cell (p := ⟨b, o + m0, none⟩) hb).trans d0
      clear d0
      obtain ⟨y1, e1, l1, u1, d1⟩ := HB.out m1 (by omega)
      have c1 := (hrow.out.bel.cell (p := ⟨b, o + m1, none⟩) hb).trans d1
      clear d1
      obtain ⟨y2, e2, l2, u2, d2⟩ := HB.out m2 (by omega)
      have c2 := (hrow.out.bel.cell (p := ⟨b, o + m2, none⟩) hb).trans d2
      clear d2
      obtain ⟨y3, e3, l3, u3, d3⟩ := HB.out m3 (by omega)
      have c3 := (hrow.out.bel.cell (p := ⟨b, o + m3, none⟩) hb).trans d3
      clear d3
      have b0 : (m0 : Int) < 64 := by omega
      have b1 : (m1 : Int) < 64 := by omega
      have b2 : (m2 : Int) < 64 := by omega
      have b3 : (m3 : Int) < 64 := by omega
      have E0 := hid_of e0
      have E1 := hid_of e1
      have E2 := hid_of e2
      have E3 := hid_of e3
      have M0 := hid_of hm0
      have M1 := hid_of hm1
      have M2 := hid_of hm2
      have M3 := hid_of hm3
      have bk : (k : Int) < 64 := by omega
      have hnx := hrow.out.drew.row.next (by rw [ext0_length]; omega)
      rw [ext0_length] at hnx
      obtain ⟨hcell, hfree⟩ := hnx
      have hrow2 : Hid (RefW w wr.drew s (ext0 B k)) := hid_of hrow.out.drew
      have s0 : IntKind.i64.wrap (4 * (k : Int)) = (m0 : Int) := by rw [IntWalk.i64_in _ (by omega)]; omega
      have s1 : IntKind.i64.wrap ((m0 : Int) + 1) = (m1 : Int) := by rw [IntWalk.i64_in _ (by omega)]; omega
      have s2 : IntKind.i64.wrap ((m0 : Int) + 2) = (m2 : Int) := by rw [IntWalk.i64_in _ (by omega)]; omega
      have s3 : IntKind.i64.wrap ((m0 : Int) + 3) = (m3 : Int) := by rw [IntWalk.i64_in _ (by omega)]; omega
      clear e0 e1 e2 e3 hm0 hm1 hm2 hm3
      go_still_tail 35, (by kernel_rfl)
      clear s0 s1 s2 s3
      change wpList _ _ _ _ _ wr.drew
      generalize wr.drew = w2 at *
      go_wp2
      go_roundw
      case rel => exact ⟨k + 1, by omega, by go_num, hid_of (hrow2.out.set (ext0_length B k) (by omega) (bits_w32 _ _ _) (by rw [ext0_succ]; congr 2; exact (be32_at M0.out M1.out M2.out M3.out E0.out E1.out E2.out E3.out).symm))⟩
      case measure => simp [intOf]; omega
    · have hk16 : k = 16 := by omega
      rw [hk16] at hrow
      clear hk16
      go_wp2
      go_loopw [7] (fun iv wr => ∃ k : Nat, k ≤ 48 ∧ iv = .int .i64 ((16 + k : Nat) : Int) ∧ Hid (RefW w wr s (extN k (ext0 B 16)))) (fun i _ => 64 - (intOf i).toNat)
      case atStart => exact ⟨0, by omega, rfl, hrow⟩
      case round =>
        obtain ⟨k, hk, rfl, hrow⟩ := hrel
        obtain ⟨l, hl⟩ : ∃ l, l = extN k (ext0 B 16) := ⟨_, rfl⟩
        rw [← hl] at hrow
        have hll : l.length = 16 + k := by rw [hl, extN_length, ext0_length]
        obtain ⟨m, hm⟩ : ∃ m : Nat, m = 16 + k := ⟨_, rfl⟩
        rw [← hm]
        have HL := hid_of hl
        have HLL : Hid (l.length = m) := hid_of (by omega)
        have HM := hid_of hm
        have hm1 : 16 ≤ m := by omega
        have hm2 : m ≤ 64 := by omega
        clear hl hll hm
        by_cases hlt : m < 64
        · obtain ⟨p2, hp2⟩ : ∃ p : Nat, p = m - 2 := ⟨_, rfl⟩
          obtain ⟨p7, hp7⟩ : ∃ p : Nat, p = m - 7 := ⟨_, rfl⟩
          obtain ⟨p15, hp15⟩ : ∃ p : Nat, p = m - 15 := ⟨_, rfl⟩
          obtain ⟨p16, hp16⟩ : ∃ p : Nat, p = m - 16 := ⟨_, rfl⟩
          obtain ⟨c2, v2⟩ := hrow.out.row.cell (j := p2) (by rw [HLL.out]; omega)
          obtain ⟨c7, v7⟩ := hrow.out.row.cell (j := p7) (by rw [HLL.out]; omega)
          obtain ⟨c15, v15⟩ := hrow.out.row.cell (j := p15) (by rw [HLL.out]; omega)
          obtain ⟨c16, v16⟩ := hrow.out.row.cell (j := p16) (by rw [HLL.out]; omega)
          obtain ⟨x2, hx2⟩ : ∃ x, x = l.getD p2 0 := ⟨_, rfl⟩
          obtain ⟨x7, hx7⟩ : ∃ x, x = l.getD p7 0 := ⟨_, rfl⟩
          obtain ⟨x15, hx15⟩ : ∃ x, x = l.getD p15 0 := ⟨_, rfl⟩
          obtain ⟨x16, hx16⟩ : ∃ x, x = l.getD p16 0 := ⟨_, rfl⟩
          rw [← hx2] at c2 v2
          rw [← hx7] at c7 v7
          rw [← hx15] at c15 v15
          rw [← hx16] at c16 v16
          have P2 := hid_of hp2
          have P7 := hid_of hp7
          have P15 := hid_of hp15
          have P16 := hid_of hp16
          have X2 := hid_of hx2
          have X7 := hid_of hx7
          have X15 := hid_of hx15
          have X16 := hid_of hx16
          have V2 := hid_of v2
          have V15 := hid_of v15
          obtain ⟨v2a, v2b⟩ := v2
          obtain ⟨v7a, v7b⟩ := v7
          obtain ⟨v15a, v15b⟩ := v15
          obtain ⟨v16a, v16b⟩ := v16
          have b2 : (p2 : Int) < 64 := by omega
          have b7 : (p7 : Int) < 64 := by omega
          have b15 : (p15 : Int) < 64 := by omega
          have b16 : (p16 : Int) < 64 := by omega
          have bm : (m : Int) < 64 := by omega
          have s2 : IntKind.i64.wrap ((m : Int) - 2) = (p2 : Int) := by rw [IntWalk.i64_in _ (by omega)]; omega
          have s7 : IntKind.i64.wrap ((m : Int) - 7) = (p7 : Int) := by rw [IntWalk.i64_in _ (by omega)]; omega
          have s15 : IntKind.i64.wrap ((m : Int) - 15) = (p15 : Int) := by rw [IntWalk.i64_in _ (by omega)]; omega
          have s16 : IntKind.i64.wrap ((m : Int) - 16) = (p16 : Int) := by rw [IntWalk.i64_in _ (by omega)]; omega
          clear hp2 hp7 hp15 hp16 hx2 hx7 hx15 hx16
          have S7 := hid_of s7
          have S16 := hid_of s16
          go_wp2
          go_quiet (fail)
          clear s2 s15
          go_wp2_with (go_at_call 61; (first
            | ((with_reducible refine (rrot_at x15 7 7 _ V15.out rfl (by omega) (by omega)).mono ?_); (rintro e w' ⟨rfl, rfl⟩))
            | ((with_reducible refine (rrot_at x15 18 18 _ V15.out rfl (by omega) (by omega)).mono ?_); (rintro e w' ⟨rfl, rfl⟩))
            | ((with_reducible refine (rrot_at x2 17 17 _ V2.out rfl (by omega) (by omega)).mono ?_); (rintro e w' ⟨rfl, rfl⟩))
            | ((with_reducible refine (rrot_at x2 19 19 _ V2.out rfl (by omega) (by omega)).mono ?_); (rintro e w' ⟨rfl, rfl⟩))))
          have hrow2 : Hid (RefW w (wr.drewN nq) s l) := hid_of (hrow.out.drewN nq)
          clear c2 c7 c15 c16
          have E0 : bits BinOp.xor IntKind.u32 (bits BinOp.xor IntKind.u32 (rot x15 7) (rot x15 18)) (x15 / 8) = lo0 x15 := rfl
          have E1 : bits BinOp.xor IntKind.u32 (bits BinOp.xor IntKind.u32 (rot x2 17) (rot x2 19)) (x2 / 1024) = lo1 x2 := rfl
          rw [E0, E1]
          clear E0 E1
          have w0 := lo0_w x15
          have w1 := lo1_w x2
          generalize hz0 : lo0 x15 = z0 at *
          generalize hz1 : lo1 x2 = z1 at *
          have Z0 := hid_of hz0
          have Z1 := hid_of hz1
          clear hz0 hz1
          obtain ⟨w0a, w0b⟩ := w0
          obtain ⟨w1a, w1b⟩ := w1
          generalize wr.drewN nq = w3 at *
          have c7 := (hrow2.out.row.cell (j := p7) (by rw [HLL.out]; have := P7.out; omega)).1
          have c16 := (hrow2.out.row.cell (j := p16) (by rw [HLL.out]; have := P16.out; omega)).1
          rw [← X7.out] at c7
          rw [← X16.out] at c16
          have hnx := hrow2.out.drew.row.next (by rw [HLL.out]; exact hlt)
          rw [HLL.out] at hnx
          obtain ⟨hcell, hfree⟩ := hnx
          have hrow3 : Hid (RefW w w3.drew s l) := hid_of hrow2.out.drew
          have s7 := S7.out
          have s16 := S16.out
          go_still_tail 15, (by kernel_rfl)
          clear s7 s16
          change wpList _ _ _ _ _ w3.drew
          generalize w3.drew = w4 at *
          go_wp2
          go_roundw
          case rel =>
            refine ⟨k + 1, by have := HM.out; omega, by have := HM.out; subst this; go_num, ?_⟩
            refine hid_of (hrow3.out.set HLL.out hlt ?_ ?_)
            · exact ad_w _ _
            · rw [extN, ← HL.out, nextW, HLL.out, ← P2.out, ← P7.out, ← P15.out, ← P16.out, ← X2.out, ← X7.out, ← X15.out, ← X16.out, Z0.out, Z1.out]
              congr 2
              unfold ad
              omega
          case measure => simp [intOf]; omega
        · have hm64 : m = 64 := by omega
          have hdm : decide ((m : Int) < 64) = false := by simp; omega
          have HEQ : Hid (extW B = l) := hid_of (by
            have := HM.out
            obtain rfl : k = 48 := by omega
            exact HL.out.symm)
          clear hm64
          have HR := hid_of (show RefW w wr s (extW B) by rw [HEQ.out]; exact hrow.out)
          clear hlt hrow HLL HL
          obtain ⟨kon, hkon⟩ : ∃ kon, kon = (ws KON).toArray := ⟨_, rfl⟩
          have HKON := hid_of hkon
          have HKSZ : Hid (kon.size = 64) := hid_of (by rw [hkon]; rfl)
          have HKI : Hid ((Tryd.prog.info? 102).map (·.size) = some kon.size) := hid_of (by rw [HKSZ.out]; exact Tryd.info64)
          have HK1 : Hid (kon.all (·.oneCell') = true) := hid_of (by rw [hkon]; exact ws_one _)
          have HKC : Hid (∀ w, Calls Tryd.prog 62 #[] w fun e w' => e = .returned (.agg kon) ∧ Below w.heap.size w w') := hid_of (fun w => by rw [hkon]; exact rconst_any w)
          clear hkon
          go_wp2_with (first
            | (go_at_call 62; ((with_reducible refine (HKC.out wr).mono ?_); (rintro e w1 ⟨rfl, h1⟩; have HB1 := hid_of h1; clear h1)))
            | (refine wpList_store_fresh rfl 102 (.tmp 12) (.tmp 105) rfl _ kon rfl rfl rfl _ HKI.out (by rw [HKSZ.out]; rfl) HK1.out ?_; (have HK := hid_of (refk_start (kon := kon) HR.out HB1.out); (generalize w1.alloc (.cells kon 102) = w2 at *); obtain ⟨q0, q1, q2, q3, q4, q5, q6, q7⟩ := HK.out.base.boxes)))
          clear q0 q1 q2 q3 q4 q5 q6 q7
          have HV0 := hid_of (refv_start HK.out (Nat.lt_of_lt_of_le HR.out.sz HB1.out.size))
          go_loopw [14] (fun iv wr => ∃ (t : Nat) (r : R8), t ≤ 64 ∧ iv = .int .i64 t ∧ Hid (r = rnds (extW B) t s) ∧ Hid (RefV w wr s (extW B) w1.heap.size kon w2.heap.size r)) (fun iv _ => 64 - (intOf iv).toNat)
          case atStart => exact ⟨0, s, by omega, rfl, hid_of rfl, HV0⟩
          case round =>
            obtain ⟨t, r, ht, rfl, hr, hv⟩ := hrel
            have hok : r.ok := by rw [hr.out]; exact rnds_ok _ _ _ HS.out
            have HOK := hid_of hok
            obtain ⟨oa, ob, oc, od, oe, of, og, oh⟩ := id hok
            have OA := hid_of oa
            have OE := hid_of oe
            obtain ⟨oa0, oa1⟩ := oa
            obtain ⟨ob0, ob1⟩ := ob
            obtain ⟨oc0, oc1⟩ := oc
            obtain ⟨od0, od1⟩ := od
            obtain ⟨oe0, oe1⟩ := oe
            obtain ⟨of0, of1⟩ := of
            obtain ⟨og0, og1⟩ := og
            obtain ⟨oh0, oh1⟩ := oh
            clear hok
            by_cases hlt : t < 64
            · have kc := (show RefV w wr s (extW B) w1.heap.size (ws KON).toArray w2.heap.size r by rw [← HKON.out]; exact hv.out).kc hlt
              have kw := kon_w t
              obtain ⟨kv, hkv⟩ : ∃ kv, kv = KON.getD t 0 := ⟨_, rfl⟩
              rw [← hkv] at kc kw
              have wc := (hv.out.base.base.row.cell (j := t) (by rw [extW_length]; exact hlt)).1
              have ww := extW_w B t
              obtain ⟨wv, hwv⟩ : ∃ wv, wv = (extW B).getD t 0 := ⟨_, rfl⟩
              rw [← hwv] at wc ww
              have HKV := hid_of hkv
              have HWV := hid_of hwv
              have bt : (t : Int) < 64 := by omega
              obtain ⟨kw0, kw1⟩ := kw
              obtain ⟨ww0, ww1⟩ := ww
              obtain ⟨q0, q1, q2, q3, q4, q5, q6, q7⟩ := hv.out.vs
              have hsg : IntKind.u32.signed = false := rfl
              clear hkv hwv
              go_wp2
              go_quiet (fail)
              go_wp2_with (go_at_call 61; (first
                | ((with_reducible refine (rrot_at r.e 6 6 _ OE.out rfl (by omega) (by omega)).mono ?_); (rintro e w' ⟨rfl, rfl⟩))
                | ((with_reducible refine (rrot_at r.e 11 11 _ OE.out rfl (by omega) (by omega)).mono ?_); (rintro e w' ⟨rfl, rfl⟩))
                | ((with_reducible refine (rrot_at r.e 25 25 _ OE.out rfl (by omega) (by omega)).mono ?_); (rintro e w' ⟨rfl, rfl⟩))))
              have E1 : bits BinOp.xor IntKind.u32 (bits BinOp.xor IntKind.u32 (rot r.e 6) (rot r.e 11)) (rot r.e 25) = up1 r.e := rfl
              have E2 : bits BinOp.xor IntKind.u32 (bits BinOp.and IntKind.u32 r.e r.f) (bits BinOp.and IntKind.u32 (bits BinOp.xor IntKind.u32 IntKind.u32.max r.e) r.g) = cho r.e r.f r.g := rfl
              rw [E1, E2]
              clear E1 E2
              have hu := up1_w r.e
              have hc := cho_w r.e r.f r.g
              obtain ⟨U, hU⟩ : ∃ U, U = up1 r.e := ⟨_, rfl⟩
              obtain ⟨C, hC⟩ : ∃ C, C = cho r.e r.f r.g := ⟨_, rfl⟩
              rw [← hU] at hu ⊢
              rw [← hC] at hc ⊢
              have HU := hid_of hU
              have HC := hid_of hC
              clear hU hC
              obtain ⟨hu0, hu1⟩ := hu
              obtain ⟨hc0, hc1⟩ := hc
              clear hsg
              go_quiet (fail)
              go_wp2_with (first
                | (go_at_call 61; (first
                  | ((with_reducible refine (rrot_at r.a 2 2 _ OA.out rfl (by omega) (by omega)).mono ?_); (rintro e w' ⟨rfl, rfl⟩))
                  | ((with_reducible refine (rrot_at r.a 13 13 _ OA.out rfl (by omega) (by omega)).mono ?_); (rintro e w' ⟨rfl, rfl⟩))
                  | ((with_reducible refine (rrot_at r.a 22 22 _ OA.out rfl (by omega) (by omega)).mono ?_); (rintro e w' ⟨rfl, rfl⟩))))
                | (refine wpList_store_row rfl 94 (.tmp 13) (.tmp 189) rfl w2.heap.size _ rfl rfl 94 _ (hv.out.drewN _).vrow Tryd.info8 rfl (ok8 _ _ _ _ _ _ _ _) ?_))
              go_roundw
              case rel =>
                refine ⟨t + 1, rnd kv wv r, by omega, by go_num, hid_of (by rw [hr.out, HKV.out, HWV.out]; rfl), hid_of ((hv.out.drewN _).setRow ?_)⟩
                unfold R8.vals
                refine vals_eq ?_ rfl rfl rfl ?_ rfl rfl rfl
                · simp only [rnd, t1F, t2F]; rw [← HU.out, ← HC.out]; unfold ad up0 maj; omega
                · simp only [rnd, t1F]; rw [← HU.out, ← HC.out]; unfold ad; omega
              case measure => simp [intOf]; omega
            · have hdt : decide ((t : Int) < 64) = false := by simp; omega
              have HR64 : Hid (r = rnds (extW B) 64 s) := hid_of (by rw [hr.out, show t = 64 by omega])
              clear oa0 oa1 ob0 ob1 oc0 oc1 od0 od1 oe0 oe1 of0 of1 og0 og1 oh0 oh1
              have HV := hid_of (show RefS w wr s w2.heap.size (sumL (lst s) (lst r) 0) from ⟨hv.out.base.base.box, hv.out.base.base.res, by rw [sumL_zero, lst_vals]; exact hv.out.vrow, hv.out.base.base.bel, by have := hv.out.hk; have := hv.out.hv; omega⟩)
              go_wp2
              go_loopw [22] (fun iv wr => ∃ i : Nat, i ≤ 8 ∧ iv = .int .i64 i ∧ Hid (RefS w wr s w2.heap.size (sumL (lst s) (lst r) i))) (fun iv _ => 8 - (intOf iv).toNat)
              case atStart => exact ⟨0, by omega, rfl, HV⟩
              case round =>
                obtain ⟨i, hi, rfl, hs⟩ := hrel
                by_cases hil : i < 8
                · have c1 : wr.cell? ⟨w2.heap.size, i, none⟩ = some (.int .u32 ((lst r).getD i 0)) := by
                    rw [cell_of_row _ _ _ _ _ _ hs.out.vrow]
                    simp [ws, sumL_at _ _ hil]
                  have c2 : wr.cell? ⟨w.heap.size, i, none⟩ = some (.int .u32 ((lst s).getD i 0)) := by
                    rw [cell_of_row _ _ _ _ _ _ hs.out.box, ← lst_vals]
                    have : i < (lst s).length := hil
                    simp [ws, List.getD, this]
                  obtain ⟨x, hx⟩ : ∃ x, x = (lst r).getD i 0 := ⟨_, rfl⟩
                  obtain ⟨y, hy⟩ : ∃ y, y = (lst s).getD i 0 := ⟨_, rfl⟩
                  rw [← hx] at c1
                  rw [← hy] at c2
                  have HX := hid_of hx
                  have HY := hid_of hy
                  have f1 : wr.drew.frozen? ⟨w2.heap.size, i, none⟩ = false := frozen_of_row _ _ _ _ _ hs.out.drew.vrow
                  have c3 : wr.drew.cell? ⟨w2.heap.size, i, none⟩ = some (.int .u32 x) := c1
                  have b1 : (i : Int) < 8 := by omega
                  have HS2 := hid_of hs.out.drew
                  clear hx hy
                  go_wp2
                  go_still_tail 8, (by kernel_rfl)
                  change wpList _ _ _ _ _ wr.drew
                  generalize wr.drew = w4 at *
                  have HF : Hid (RefS w (w4.setCell ⟨w2.heap.size, i, none⟩ (.int .u32 ((x + y) % 4294967296))) s w2.heap.size (sumL (lst s) (lst r) (i + 1))) := hid_of (HS2.out.set (by
                    rw [← sumL_set _ _ hil, ← HX.out, ← HY.out, show (x + y) % 4294967296 = ad y x by unfold ad; omega]))
                  go_wp2
                  go_roundw
                  case rel =>
                    exact ⟨i + 1, by omega, by go_num, HF⟩
                  case measure => simp [intOf]; omega
                · obtain rfl : i = 8 := by omega
                  have HFIN : Hid ((ws (sumL (lst s) (lst r) 8)).toArray = (mixF s B).vals) := hid_of (by
                    rw [sumL_all]; unfold mixF; rw [← HR64.out])
                  have HROW := hid_of hs.out.vrow
                  have HRES := hid_of hs.out.res
                  have HBEL := hid_of hs.out.bel
                  obtain ⟨arr, harr⟩ : ∃ arr, arr = (ws (sumL (lst s) (lst r) 8)).toArray := ⟨_, rfl⟩
                  have HSZ : Hid (arr.size = 8) := hid_of (by rw [harr]; simp [ws, sumL])
                  have HI : Hid ((Tryd.prog.info? 94).map (·.size) = some arr.size) := hid_of (by rw [HSZ.out]; exact Tryd.info8)
                  have H1 : Hid (arr.all (·.oneCell') = true) := hid_of (by rw [harr]; exact ws_one _)
                  rw [← harr] at HFIN HROW
                  clear harr hs
                  go_wp2_with (first
                    | (refine wpList_load_row rfl 94 (.tmp 13) rfl w2.heap.size rfl 94 arr (0, 0) _ HROW.out Tryd.underlying94 rfl HI.out ?_)
                    | (refine wpList_store_row rfl 94 (.tmp 4) (.tmp 202) rfl (w.heap.size + 1) arr rfl rfl 94 _ HRES.out HI.out (by rw [HSZ.out]; rfl) H1.out ?_))
                  refine bodyPost_ret (results_cell_row rfl _ _ (w.heap.size + 1) 94 arr (0, 0) _ rfl (setRow_heap _ _ _ _ _ _ HRES.out) Tryd.underlying94 rfl HI.out) rfl ⟨?_, ?_⟩
                  · rw [HFIN.out]; rfl
                  · exact below_setRow HBEL.out (Nat.le_succ _) arr
end Go.Proofs.YtlffiebnieakjaaDoor.Sh

/- The reference's Sum is the digest; the law ShaSums. Bounds on sizes alone. -/
namespace Go.Proofs.YtlffiebnieakjaaDoor.Sh
open Go.RowKit

theorem wordBytes_r (x : Int) : ∀ y ∈ wordBytes x, 0 ≤ y ∧ y ≤ 255 := by
  intro y hy
  simp only [wordBytes, List.mem_cons, List.not_mem_nil, or_false] at hy
  rcases hy with rfl | rfl | rfl | rfl <;> omega
theorem pad_r (n : Nat) : ∀ y ∈ padOf n, 0 ≤ y ∧ y ≤ 255 := by
  intro y hy
  simp only [padOf, be8, List.mem_cons, List.mem_append, List.not_mem_nil, or_false] at hy
  rcases hy with rfl | hy | hy | hy
  · omega
  · have := List.eq_of_mem_replicate hy; omega
  · rcases hy with rfl | rfl | rfl | rfl <;> omega
  · rcases hy with rfl | rfl | rfl | rfl <;> omega
/-- Bytes of a slice, block by block. -/
theorem lies_bytes {w : World} {ao : Option Addr} {n cap k : Nat} {m : List Int} (h : Lies w (.slice ao n cap) m) (hr : ∀ y ∈ m, 0 ≤ y ∧ y ≤ 255) (hk : 64 * k + 64 ≤ m.length) :
    ∃ g o, ao = some ⟨g, o, none⟩ ∧ n = m.length ∧ n ≤ cap ∧ cap ≤ 9223372036854775807 ∧ g < w.heap.size ∧ Bytes64 w g (o + 64 * k) ((m.drop (64 * k)).take 64) := by
  obtain ⟨a2, c2, h1, h2, h3, h4⟩ := h
  simp only [Value.slice.injEq] at h1
  obtain ⟨rfl, rfl, rfl⟩ := h1
  obtain ⟨g, o, q1, q2, q3⟩ := h4 (by omega)
  refine ⟨g, o, q1, rfl, h2, h3, q2, fun j hj => ?_⟩
  have hjl : 64 * k + j < m.length := by omega
  have hy : m[64 * k + j]? = some m[64 * k + j] := List.getElem?_eq_getElem hjl
  obtain ⟨b1, b2⟩ := hr _ (List.getElem_mem hjl)
  refine ⟨m[64 * k + j], ?_, b1, b2, ?_⟩
  · rw [List.getElem?_take, if_pos hj, List.getElem?_drop]; exact hy
  · rw [Nat.add_assoc]
    exact q3 _ _ (by simp [bs, hjl])
def wordsTo (s : R8) (i : Nat) : List Int := ((lst s).take i).flatMap wordBytes
theorem wordsTo_succ (s : R8) {i : Nat} (h : i < 8) : wordsTo s (i + 1) = wordsTo s i ++ wordBytes ((lst s).getD i 0) := by
  have hl : i < (lst s).length := h
  unfold wordsTo
  rw [List.take_succ_eq_append_getElem hl, List.flatMap_append]
  simp [List.getD, hl]
theorem wordsTo_all (s : R8) : wordsTo s 8 = digestOf s := by
  unfold wordsTo digestOf lst
  simp [List.append_assoc]
theorem wordsTo_len (s : R8) {i : Nat} (h : i ≤ 8) : (wordsTo s i).length = 4 * i := by
  induction i with
  | zero => rfl
  | succ i ih => rw [wordsTo_succ s (by omega), List.length_append, ih (by omega)]; simp [wordBytes]; omega
/-- The state in block H, the padded message beside it. -/
structure SumW (w w2 : World) (s : R8) (v : Value) (m : List Int) : Prop where
  row : w2.heap[w.heap.size]? = some (.cells s.vals 94 (0, 0))
  msg : Lies w2 v m
  apart : ∀ ao n cap g o, v = .slice ao n cap → ao = some ⟨g, o, none⟩ → w.heap.size < g
  bel : Below w.heap.size w w2
theorem SumW.boxes {w w2 : World} {s : R8} {v : Value} {m : List Int} (h : SumW w w2 s v m) :
    w2.cell? ⟨w.heap.size, 0, none⟩ = some (.int .u32 s.a) ∧ w2.cell? ⟨w.heap.size, 1, none⟩ = some (.int .u32 s.b) ∧ w2.cell? ⟨w.heap.size, 2, none⟩ = some (.int .u32 s.c) ∧ w2.cell? ⟨w.heap.size, 3, none⟩ = some (.int .u32 s.d) ∧
    w2.cell? ⟨w.heap.size, 4, none⟩ = some (.int .u32 s.e) ∧ w2.cell? ⟨w.heap.size, 5, none⟩ = some (.int .u32 s.f) ∧ w2.cell? ⟨w.heap.size, 6, none⟩ = some (.int .u32 s.g) ∧ w2.cell? ⟨w.heap.size, 7, none⟩ = some (.int .u32 s.h) := by
  have q := fun j => cell_of_row _ _ j _ _ _ h.row
  exact ⟨q 0, q 1, q 2, q 3, q 4, q 5, q 6, q 7⟩

theorem lies_other {w w' : World} {v : Value} {l : List Int} {H : Nat} (h : Lies w v l) (ho : ∀ k, k ≠ H → w'.heap[k]? = w.heap[k]?) (hs : w.heap.size ≤ w'.heap.size) (hap : ∀ ao n cap g o, v = .slice ao n cap → ao = some ⟨g, o, none⟩ → g ≠ H) : Lies w' v l := by
  obtain ⟨ao, cap, h1, h2, h3, h4⟩ := h
  refine ⟨ao, cap, h1, h2, h3, fun h0 => ?_⟩
  obtain ⟨g, o, q1, q2, q3⟩ := h4 h0
  refine ⟨g, o, q1, Nat.lt_of_lt_of_le q2 hs, fun j u hu => ?_⟩
  have e := ho g (hap ao _ cap g o h1 q1)
  have := q3 j u hu
  unfold World.cell? at this ⊢
  simp only [e]
  exact this
theorem bytes4 {x : Int} (h0 : 0 ≤ x) (h1 : x ≤ 4294967295) : [x / 16777216, x / 65536 % 256, x / 256 % 256, x % 256] = wordBytes x := by
  unfold wordBytes; congr 1; omega
theorem lst_w {s : R8} (h : s.ok) {i : Nat} (hi : i < 8) : W32 ((lst s).getD i 0) := by
  obtain ⟨a, b, c, d, e, f, g, h⟩ := h
  have : i = 0 ∨ i = 1 ∨ i = 2 ∨ i = 3 ∨ i = 4 ∨ i = 5 ∨ i = 6 ∨ i = 7 := by omega
  rcases this with rfl | rfl | rfl | rfl | rfl | rfl | rfl | rfl <;> assumption
/-- A whole array out of its block, in the still head of a region. -/
theorem wpStill_load_row {P : Program} {ops : Array Oper} {rest : List Oper} {o : Oper} {a : Act} {w : World} {Q : Act → Prop} (hgd : o.guard = none) (ty : TypeId) (x : Operand) (ho : o.op = .load ty x)
    (g : Nat) (hx : a.eval x = .pointer (some ⟨g, 0, none⟩)) (t : TypeId) (cs : Array Value) (fr : Nat × Nat) (d : TypeDesc) (hg : w.heap[g]? = some (.cells cs t fr))
    (hu : P.underlying ty = some d) (hd : (match d with | .struct _ | .array _ _ => true | _ => false) = true) (hi : (P.info? ty).map (·.size) = some cs.size)
    (h : wpStill P ops w Q rest (a.put o.dst (.agg cs))) : wpStill P ops w Q (o :: rest) a := by
  refine wpStill_step (fun K hK => ?_)
  have hw : Region.wanted o (yielded ops a.tmps) = true := by simp [Region.wanted, hgd]
  rw [if_pos hw]
  have hr : (execOp a.eval o).run P w = .ok (.value (.agg cs)) w := by
    unfold execOp
    simp only [ho, hx, Instr.loadAt, Instr.sureAddr, Sem.run_bind, Sem.run_pure, Result.andThen_ok, run_loadVar_row w g t ty cs fr d hg hu hd hi]
  unfold Oper.still
  rw [hr, Oper.stillUpon_value]
  exact hK _ h

set_option maxRecDepth 100000 in
set_option maxHeartbeats 3200000 in
theorem refSum_any (l : List Int) (ao : Option Addr) (n cap : Nat) (w : World) (hl : l.length = n) (hL : Lies w (.slice ao n cap) l) (hr : ∀ y ∈ l, 0 ≤ y ∧ y ≤ 255) (hn : n ≤ 2300) :
    Calls Tryd.prog 43 #[.slice ao n cap] w fun e w' => e = .returned (.string (strOfNums (digest l))) ∧ Below w.heap.size w w' := by
  have HL := hid_of hL
  have HN := hid_of hl
  obtain ⟨m, hm⟩ : ∃ m, m = l ++ padOf n := ⟨_, rfl⟩
  have HMR : Hid (∀ y ∈ m, 0 ≤ y ∧ y ≤ 255) := hid_of (fun y hy => by
    rw [hm] at hy
    rcases List.mem_append.1 hy with h | h
    · exact hr y h
    · exact pad_r n y h)
  obtain ⟨K, hK⟩ : ∃ K, K = m.length / 64 := ⟨_, rfl⟩
  have HML : Hid (m.length = 64 * K) := hid_of (by
    have := pad_whole n
    have e : m.length = n + (padOf n).length := by rw [hm, List.length_append, hl]
    omega)
  have HKB : Hid (1 ≤ K ∧ K ≤ 40) := hid_of (by
    have e : m.length = n + (padOf n).length := by rw [hm, List.length_append, hl]
    have := padOf_length n
    have : zerosOf n ≤ 63 := zeros_le n
    have := HML.out
    omega)
  have HD : Hid (digest l = digestOf (hashN m K)) := hid_of (by unfold digest HB; rw [hl, ← hm, hK])
  obtain ⟨ml, hml⟩ : ∃ ml, ml = m.length := ⟨_, rfl⟩
  have HML2 := hid_of hml
  have HPAD : Hid (∀ w', Below w.heap.size w w' → Calls Tryd.prog 54 #[.slice ao n cap] w' fun e w'' => ∃ (xo : Option Addr) (c : Nat), e = .returned (.slice xo ml c) ∧ OS w'.heap.size w' w'' (.slice xo ml c) m) := hid_of (fun w' hb => by rw [hml, hm]; exact padded_any l ao n cap w' hl (hL.at hb) hn)
  clear hL hl hm hK hr hml
  go_enter Tryd.func43, Tryd.ntmps43
  go_wp2_with (go_at_call 54; ((refine (HPAD.out _ (bel_alloc _ _)).mono ?_); (rintro e w1 ⟨xo, xc, rfl, h1⟩; have H1 := hid_of h1; clear h1)))
  have HLI : Hid (Lies w1 (.slice xo ml xc) m) := hid_of (H1.out.lies (by have := HML.out; have := HKB.out; omega))
  have HAD : Hid (∀ g o, xo = some ⟨g, o, none⟩ → w.heap.size < g) := hid_of (fun g o e => by
    have h := H1.out.own.lt g (by rw [e]; rfl)
    simp at h; omega)
  have HROW0 : Hid (w1.heap[w.heap.size]? = some (.cells (hashN m 0).vals 94 (0, 0))) := hid_of (by
    rw [H1.out.bel.block _ (by simp)]
    rw [heap_alloc_new]; rfl)
  have HBL0 : Hid (Below w.heap.size w w1) := hid_of (bel_fst H1.out.bel)
  go_loopw [5] (fun iv wr => ∃ (k j : Nat), k ≤ K ∧ iv = .int .i64 (j : Int) ∧ Hid (j = 64 * k) ∧ Hid (wr.heap[w.heap.size]? = some (.cells (hashN m k).vals 94 (0, 0))) ∧ Hid (Lies wr (.slice xo ml xc) m) ∧ Hid (Below w.heap.size w wr)) (fun iv _ => ml - (intOf iv).toNat)
  case atStart => exact ⟨0, 0, Nat.zero_le _, rfl, hid_of rfl, HROW0, HLI, HBL0⟩
  case round =>
    obtain ⟨k, j, hk, rfl, hj, hrow, hlies, hbel⟩ := hrel
    by_cases hlt : k < K
    · have HJ2 : Hid (j + 64 ≤ ml) := hid_of (by have := hj.out; have := HML.out; have := HML2.out; omega)
      obtain ⟨g, o, hxo, hn1, hn2, hn3, hg, hby⟩ := lies_bytes (k := k) hlies.out HMR.out (by have := HML.out; omega)
      obtain ⟨r, hr⟩ : ∃ r, r = hashN m k := ⟨_, rfl⟩
      have HRR := hid_of hr
      have hboxes : ∀ q v, r.vals[q]? = some v → wr.cell? ⟨w.heap.size, q, none⟩ = some v := fun q v hv => by
        rw [cell_of_row _ _ q _ _ _ hrow.out, ← hr]; exact hv
      have q0 := hboxes 0 _ rfl
      have q1 := hboxes 1 _ rfl
      have q2 := hboxes 2 _ rfl
      have q3 := hboxes 3 _ rfl
      have q4 := hboxes 4 _ rfl
      have q5 := hboxes 5 _ rfl
      have q6 := hboxes 6 _ rfl
      have q7 := hboxes 7 _ rfl
      have HOK : Hid r.ok := hid_of (by rw [hr]; exact hashN_ok _ _)
      have HNX : Hid (mixF r ((m.drop (64 * k)).take 64) = hashN m (k + 1)) := hid_of (by rw [hr]; rfl)
      have hjml : (j : Int) + 64 ≤ (ml : Int) := by have := HJ2.out; omega
      have hjn : j + 64 ≤ ml := HJ2.out
      have hmlb : ml ≤ 2560 := by have := HML.out; have := HML2.out; have := HKB.out; omega
      have hd : decide (j < ml) = true := by simp; omega
      obtain ⟨j2, hj2⟩ : ∃ j2, j2 = j + 64 := ⟨_, rfl⟩
      have s1 : IntKind.i64.wrap ((j : Int) + 64) = (j2 : Int) := by rw [IntWalk.i64_in _ (by omega)]; omega
      have hj2b : (j2 : Int) ≤ (ml : Int) := by omega
      have hj2n : j2 ≤ ml := by omega
      have hj2c : j ≤ j2 := by omega
      have hcb : ml ≤ xc := hn2
      have hj2x : j2 ≤ xc := by omega
      have HCX := hid_of hn3
      have hdiff : j2 - j = 64 := by omega
      have HBY : Hid (∀ w2, Below wr.heap.size wr w2 → Bytes64 w2 g (o + j) ((m.drop (64 * k)).take 64)) := hid_of (fun w2 hb => by
        rw [hj.out]; exact hby.later hb)
      have HG := hid_of hg
      have HGH := hid_of (HAD.out g o hxo)
      have HKK : Hid (k + 1 ≤ K) := hid_of (by omega)
      clear hr hboxes hj2 hn1 hn2 hn3 hby hg hlt
      have hjx : j < xc := by omega
      have hjx2 : ¬ xc = j := by omega
      subst hxo
      have HROWD : Hid (wr.drew.heap[w.heap.size]? = some (.cells r.vals 94 (0, 0))) := hid_of (by rw [HRR.out]; exact hrow.out)
      have HLD : Hid (Lies wr.drew (.slice (some ⟨g, o, none⟩) ml xc) m) := hlies
      have HBD : Hid (Below w.heap.size w wr.drew) := hid_of hbel.out.drew
      have HBK : Hid (Calls Tryd.prog 55 #[.agg #[.int .u32 r.a, .int .u32 r.b, .int .u32 r.c, .int .u32 r.d, .int .u32 r.e, .int .u32 r.f, .int .u32 r.g, .int .u32 r.h], .slice (some ⟨g, o + j, none⟩) 64 (xc - j)] wr.drew fun e w' => e = .returned (.agg (mixF r ((m.drop (64 * k)).take 64)).vals) ∧ Below wr.drew.heap.size wr.drew w') := hid_of (rblock_any r g (o + j) (xc - j) _ wr.drew HOK.out (HBY.out wr.drew (Below.refl _ _).drew))
      obtain ⟨arr, harr⟩ : ∃ arr, arr = (mixF r ((m.drop (64 * k)).take 64)).vals := ⟨_, rfl⟩
      have HARR : Hid (arr = (hashN m (k + 1)).vals) := hid_of (by rw [harr, HNX.out])
      have HSZ : Hid (arr.size = 8) := hid_of (by rw [harr]; rfl)
      have HI : Hid ((Tryd.prog.info? 94).map (·.size) = some arr.size) := hid_of (by rw [HSZ.out]; exact Tryd.info8)
      have HO1 : Hid (arr.all (·.oneCell') = true) := hid_of (by rw [harr]; exact ok8 _ _ _ _ _ _ _ _)
      rw [← harr] at HBK
      clear harr
      have HROWW : Hid (wr.heap[w.heap.size]? = some (.cells #[.int .u32 r.a, .int .u32 r.b, .int .u32 r.c, .int .u32 r.d, .int .u32 r.e, .int .u32 r.f, .int .u32 r.g, .int .u32 r.h] 94 (0, 0))) := HROWD
      go_wp2
      refine wp_region_still_tail 6 (by kernel_rfl) (by kernel_rfl) ?_
      simp only [List.take_succ_cons, List.take_zero, List.drop_succ_cons, List.drop_zero]
      refine wpStill_load_row rfl 94 (.tmp 3) rfl w.heap.size rfl 94 #[.int .u32 r.a, .int .u32 r.b, .int .u32 r.c, .int .u32 r.d, .int .u32 r.e, .int .u32 r.f, .int .u32 r.g, .int .u32 r.h] (0, 0) _ HROWW.out Tryd.underlying94 rfl Tryd.info8 ?_
      repeat still_step
      refine wpStill_nil ?_
      change wpList _ _ _ _ _ wr.drew
      clear s1
      generalize wr.drew = w4 at *
      go_wp2_with (first
        | (go_at_call 55; ((with_reducible refine (HBK.out).mono ?_); (rintro e w5 ⟨rfl, h5⟩; have HROW5 := hid_of ((h5.block _ (lt_of_block HROWD.out)).trans HROWD.out); have HL5 := hid_of (HLD.out.at h5); have HB5 := hid_of (HBD.out.trans (h5.mono HBD.out.size)); clear h5)))
        | (refine wpList_store_row rfl 94 (.tmp 3) (.tmp 24) rfl w.heap.size arr rfl rfl 94 _ HROW5.out HI.out (by rw [HSZ.out]; rfl) HO1.out ?_))
      have HX1 : Hid ((w5.setRow w.heap.size arr).heap[w.heap.size]? = some (.cells (hashN m (k + 1)).vals 94 (0, 0))) := hid_of (by rw [← HARR.out]; exact setRow_heap _ _ _ _ _ _ HROW5.out)
      have HX2 : Hid (Lies (w5.setRow w.heap.size arr) (.slice (some ⟨g, o, none⟩) ml xc) m) := hid_of (lies_other (H := w.heap.size) HL5.out (fun q hq => setRow_other w5 w.heap.size q _ hq) (by simp) (fun ao2 n2 c2 g2 o2 e1 e2 => by
        simp only [Value.slice.injEq] at e1
        rw [e2] at e1
        simp only [Option.some.injEq, Addr.mk.injEq] at e1
        have := HGH.out
        omega))
      have HX3 : Hid (Below w.heap.size w (w5.setRow w.heap.size arr)) := hid_of (below_setRow HB5.out (Nat.le_refl _) arr)
      go_roundw
      case rel => exact ⟨k + 1, j + 64, HKK.out, by go_num, hid_of (by have := hj.out; omega), HX1, HX2, HX3⟩
      case measure => simp [intOf]; have := HJ2.out; omega
    · have ekK : k = K := by omega
      subst ekK
      have hd : decide (j < ml) = false := by have := hj.out; have := HML.out; have := HML2.out; simp; omega
      obtain ⟨s, hs⟩ : ∃ s, s = hashN m k := ⟨_, rfl⟩
      have HS : Hid (s.ok) := hid_of (by rw [hs]; exact hashN_ok _ _)
      have HDD : Hid (digest l = digestOf s) := hid_of (by rw [HD.out, hs])
      have HROW : Hid (wr.heap[w.heap.size]? = some (.cells s.vals 94 (0, 0))) := hid_of (by rw [hs]; exact hrow.out)
      have HLT := hid_of (lt_of_block hrow.out)
      have HO0 : Hid (OS wr.heap.size wr wr (.slice none 0 0) (wordsTo s 0)) := hid_of (os_nil wr)
      clear hlt hs hrow hlies
      go_wp2
      obtain ⟨wo, rfl⟩ : ∃ wo : World, wo = wr := ⟨_, rfl⟩
      go_loopw [6, 7] (fun ov iv wr => ∃ (i : Nat) (yo : Option Addr) (yc : Nat), i ≤ 8 ∧ iv = .int .i64 i ∧ ov = .slice yo (4 * i) yc ∧ Hid (OS wo.heap.size wo wr (.slice yo (4 * i) yc) (wordsTo s i))) (fun _ iv _ => 8 - (intOf iv).toNat)
      case atStart => exact ⟨0, none, 0, by omega, rfl, rfl, HO0⟩
      case round =>
        obtain ⟨i, yo, yc, hi, rfl, rfl, how⟩ := hrel
        obtain ⟨i4, hi4⟩ : ∃ i4, i4 = 4 * i := ⟨_, rfl⟩
        have HI4 := hid_of hi4
        rw [← hi4] at how ⊢
        clear hi4
        by_cases hil : i < 8
        · have c1 : wr.cell? ⟨w.heap.size, i, none⟩ = some (.int .u32 ((lst s).getD i 0)) := by
            rw [how.out.bel.cell (p := ⟨w.heap.size, i, none⟩) HLT.out, cell_of_row _ _ _ _ _ _ HROW.out, ← lst_vals]
            have : i < (lst s).length := hil
            simp [ws, List.getD, this]
          obtain ⟨x0, x1⟩ := lst_w HS.out hil
          obtain ⟨x, hx⟩ : ∃ x, x = (lst s).getD i 0 := ⟨_, rfl⟩
          rw [← hx] at c1 x0 x1
          have HX := hid_of hx
          have bi : (i : Int) < 8 := by omega
          have HLEN : Hid ((wordsTo s i).length = i4) := hid_of (by rw [wordsTo_len s hi, HI4.out])
          have HI48 : Hid (i4 ≤ 32) := hid_of (by have := HI4.out; omega)
          have LZ := hid_of (lies_new (w := wr) (l := [x / 16777216, x / 65536 % 256, x / 256 % 256, x % 256]) (n := 4) (cs := #[.int .u8 (x / 16777216), .int .u8 (x / 65536 % 256), .int .u8 (x / 256 % 256), .int .u8 (x % 256)]) (m := (0, 0)) rfl rfl (by simp))
          have HW4 : Hid (wordsTo s (i + 1) = wordsTo s i ++ [x / 16777216, x / 65536 % 256, x / 256 % 256, x % 256]) := hid_of (by rw [wordsTo_succ s hil, ← HX.out, bytes4 x0 x1])
          clear hx
          go_wp2_with (at_builtin; ((refine wpList_app rfl _ _ rfl (v := .slice yo i4 yc) rfl (how.out.alloc _) (vx := .slice (some ⟨wr.heap.size, 0, none⟩) 4 4) rfl LZ.out (by rw [HLEN.out]; simp; have := HI48.out; omega) ?_); intro xo3 n3 c3 w3 hn3 h3; obtain rfl : n3 = i4 + 4 := (by rw [hn3, HLEN.out]; rfl); have X3 : Hid (OS wo.heap.size wo w3 (.slice xo3 (i4 + 4) c3) (wordsTo s (i + 1))) := hid_of (by rw [HW4.out]; exact h3); clear h3 hn3))
          go_roundw
          case rel => exact ⟨i + 1, xo3, c3, by omega, by go_num, by rw [show 4 * (i + 1) = i4 + 4 by have := HI4.out; omega], by rw [show 4 * (i + 1) = i4 + 4 by have := HI4.out; omega]; exact X3⟩
          case measure => simp [intOf]; omega
        · obtain rfl : i = 8 := by omega
          have HF : Hid (OS wo.heap.size wo wr (.slice yo i4 yc) (digestOf s)) := hid_of (by rw [← wordsTo_all]; exact how.out)
          have H32 : Hid ((digestOf s).length = i4) := hid_of (by rw [← wordsTo_all, wordsTo_len s (by omega), HI4.out])
          clear how
          go_wp2_with (refine wpList_str _ rfl 32 9 (.tmp 46) rfl 5 Tryd.underlying32 Tryd.underlying5 Tryd.underlying9 yo (digestOf s) i4 yc H32.out rfl HF.out.src ?_)
          go_ret
          exact ⟨by rw [HDD.out]; rfl, hbel.out.trans (HF.out.bel.mono hbel.out.size)⟩

end Go.Proofs.YtlffiebnieakjaaDoor.Sh

/- Checkpoint: the reference's numbers and headers. Bounds on sizes alone. -/
namespace Go.Proofs.YtlffiebnieakjaaDoor
open Go.RowKit
set_option maxRecDepth 100000
set_option maxHeartbeats 6400000

theorem be_at (m : Nat) : ∀ (k j : Nat), j < k → (beF m k)[j]? = some ((m / 256 ^ (k - 1 - j) % 256 : Nat) : Int)
  | k + 1, 0, _ => by simp [beF]
  | k + 1, j + 1, h => by
    rw [beF, List.getElem?_cons_succ, be_at m k j (by omega), show k + 1 - 1 - (j + 1) = k - 1 - j by omega]
theorem be_take {m k r : Nat} (h : r < k) : (beF m k).take (k - r) = (beF m k).take (k - (r + 1)) ++ [((m / 256 ^ r % 256 : Nat) : Int)] := by
  rw [show k - r = (k - (r + 1)) + 1 by omega, List.take_add_one, be_at m k _ (by omega), show k - 1 - (k - (r + 1)) = r by omega]
  rfl
/-- A slice's length. -/
def lnOf : Value → Nat
  | .slice _ n _ => n
  | _ => 0
theorem rbig_any {B : Nat} {w0 : World} (ao : Option Addr) (n0 cap m k : Nat) (l : List Int) (w : World) (h : Ow 5 B w0 w (.slice ao n0 cap) (by8 l)) (hn : n0 = l.length) (hl : l.length ≤ 1000) (hm : m < 18446744073709551616) (hk : k ≤ 8) :
    Calls Tryd.prog 42 #[.slice ao n0 cap, .int .u64 m, .int .i64 k] w fun e w' => ∃ x n' c, e = .returned (.slice x n' c) ∧ n' = l.length + k ∧ Ow 5 B w0 w' (.slice x n' c) (by8 (l ++ beF m k)) := by
  have HH := hid_of h
  have hkw : IntKind.i64.wrap ((k : Int) - 1) = (k : Int) - 1 := IntWalk.i64_in _ (by omega)
  have HN := hid_of hn
  have HL := hid_of hl
  have HK := hid_of hk
  clear h hn hl
  go_enter Tryd.func42, Tryd.ntmps42
  go_wp2
  go_loopw [0, 7] (fun v iv wr => ∃ (r : Nat) (x : Option Addr) (c n : Nat), v = .slice x n c ∧ iv = .int .i64 ((r : Int) - 1) ∧ Hid (r ≤ k) ∧ Hid (n = l.length + (k - r)) ∧ Hid (Ow 5 B w0 wr (.slice x n c) (by8 (l ++ (beF m k).take (k - r))))) (fun _ iv _ => ((intOf iv) + 1).toNat)
  case atStart => exact ⟨k, ao, cap, n0, rfl, rfl, hid_of (Nat.le_refl _), hid_of (by rw [HN.out]; omega), hid_of (by rw [Nat.sub_self, List.take_zero, List.append_nil]; exact HH.out)⟩
  case round =>
    obtain ⟨r, x, c, n, rfl, rfl, hr, hnn, ho⟩ := hrel
    cases r with
    | zero =>
      have d1 : ¬ (0 : Int) ≤ ((0 : Nat) : Int) - 1 := by omega
      have HF := hid_of (show (l ++ (beF m k).take (k - 0)) = l ++ beF m k from by rw [Nat.sub_zero, List.take_of_length_le (by rw [beF_len]; exact Nat.le_refl _)])
      go_wp2
      go_ret
      have h9 := ho.out
      rw [HF.out] at h9
      exact ⟨x, n, c, rfl, hnn.out, h9⟩
    | succ r =>
      have er : (((r + 1 : Nat) : Int) - 1) = (r : Int) := by omega
      rw [er]
      obtain ⟨s, hs⟩ : ∃ s, s = 8 * r := ⟨_, rfl⟩
      have r9 : r < 8 := by have := hr.out; have := HK.out; omega
      have s9 : s ≤ 56 := by omega
      have s1 : IntKind.i64.wrap (8 * (r : Int)) = (s : Int) := by rw [show 8 * (r : Int) = (s : Int) by omega]; exact IntWalk.i64_in _ (by omega)
      have s1b : 8 * (r : Int) = (s : Int) := by omega
      have s2 : IntKind.u64.wrap (s : Int) = (s : Int) := IntWalk.u64_in _ (by omega)
      have s3 : IntKind.i64.wrap ((r : Int) - 1) = (r : Int) - 1 := IntWalk.i64_in _ (by omega)
      have HE : Hid ((m : Int) / 2 ^ s % 256 = ((m / 256 ^ r % 256 : Nat) : Int)) := hid_of (by rw [hs]; exact byte_at m r)
      have HT := hid_of (be_take (m := m) (k := k) (r := r) (by have := hr.out; omega))
      have HLL := hid_of (show n ≤ 2000 from by have := hnn.out; have := HL.out; have := HK.out; omega)
      have HNN := hid_of (show (by8 (l ++ (beF m k).take (k - (r + 1)))).length = n from by rw [by8_length, List.length_append, List.length_take, beF_len, hnn.out]; have := hr.out; omega)
      have d1 : (0 : Int) ≤ (r : Int) := by omega
      have d2 : decide ((r : Int) ≥ 0) = true := decide_eq_true d1
      clear hs er r9
      go_wp2_with (at_builtin; (refine wpList_app u8E rfl _ _ rfl (v := .slice x n c) (l := by8 (l ++ (beF m k).take (k - (r + 1)))) rfl (ho.out.alloc _) (vx := .slice (some ⟨wr.heap.size, 0, none⟩) 1 1) (m := [.int .u8 ((m : Int) / 2 ^ s % 256)]) rfl (rd_new rfl rfl (by simp)) (by intro u hu; rw [List.mem_singleton.1 hu]; rfl) (by have := HNN.out; have := HLL.out; simp only [List.length_singleton]; omega) (by have := HNN.out; have := HLL.out; simp only [List.length_singleton]; omega) ?_); intro xo2 n2 c2 w2 hn2 h2; have H2 : Hid (Ow 5 B w0 w2 (.slice xo2 n2 c2) (by8 (l ++ (beF m k).take (k - r)))) := hid_of (by rw [HT.out, ← List.append_assoc, by8_two, ← HE.out]; exact h2); have HN2 := hid_of (show n2 = n + 1 from by rw [hn2, HNN.out]; rfl); clear h2 hn2)
      go_roundw
      case rel => exact ⟨r, xo2, c2, n2, rfl, rfl, hid_of (by have := hr.out; omega), hid_of (by have := HN2.out; have := hnn.out; have := hr.out; omega), H2⟩
      case measure => simp [intOf]
theorem rheader_any (ao : Option Addr) (n cap : Nat) (b : List Int) (g z : Nat) (w : World) (hR : Rd w (.slice ao n cap) (by8 b)) (hb : Byt b) (hl : b.length ≤ 2200) (hg : g < 9223372036854775808) (hz : 44 ≤ z ∧ z ≤ 5000) :
    Calls Tryd.prog 32 #[.slice ao n cap, .int .i64 g, .int .i64 z] w fun e w' => ∃ x c, e = .returned (.slice x z c) ∧ Ow 5 w.heap.size w w' (.slice x z c) (by8 (headK Sh.digest z b g)) := by
  have hn := (rd_cut hR).1
  rw [by8_length] at hn
  have g1 : IntKind.u64.wrap (g : Int) = (g : Int) := IntWalk.u64_in _ (by omega)
  have n1 : IntKind.u64.wrap (n : Int) = (n : Int) := IntWalk.u64_in _ (by omega)
  have C1 := hid_of (show Calls Tryd.prog 42 #[.slice none 0 0, .int .u64 (g : Nat), .int .i64 8] w (fun e w' => ∃ x n' c, e = .returned (.slice x n' c) ∧ n' = 8 ∧ Ow 5 w.heap.size w w' (.slice x n' c) (by8 (beF g 8))) from rbig_any none 0 0 g 8 [] w (ow_nil 5 w) rfl (by decide) (by omega) (by decide))
  have C2 := hid_of (fun (X : World) (x : Option Addr) (k c : Nat) (h : Ow 5 w.heap.size w X (.slice x k c) (by8 (beF g 8))) (hk : k = 8) => show Calls Tryd.prog 42 #[.slice x k c, .int .u64 (n : Nat), .int .i64 4] X (fun e w' => ∃ x n' c, e = .returned (.slice x n' c) ∧ n' = (beF g 8).length + 4 ∧ Ow 5 w.heap.size w w' (.slice x n' c) (by8 (beF g 8 ++ beF n 4))) from rbig_any x k c n 4 (beF g 8) X h (by rw [hk, beF_len]) (by rw [beF_len]; decide) (by omega) (by decide))
  have CS := hid_of (fun (X : World) (x : Option Addr) (k c : Nat) (hk : k = 12 + n) (h : Rd X (.slice x k c) (by8 (beF g 8 ++ (beF n 4 ++ b)))) => Sh.refSum_any (beF g 8 ++ (beF n 4 ++ b)) x k c X (by simp only [List.length_append, beF_len]; omega) (lies_of h) (fun y hy => by
    rcases List.mem_append.1 hy with h1 | h1
    · exact beF_byt g 8 y h1
    · rcases List.mem_append.1 h1 with h1 | h1
      · exact beF_byt n 4 y h1
      · exact hb y h1) (by omega))
  obtain ⟨d, hd⟩ : ∃ d, d = Sh.digest (beF g 8 ++ (beF n 4 ++ b)) := ⟨_, rfl⟩
  have hdl : d.length = 32 := by rw [hd, Sh.digest_length]
  rw [← hd] at CS
  have HSR := hid_of (fun W' => show Src Tryd.prog 1 9 (.string (strOfNums d)) 32 (by8 d) W' from by
    have h1 := Src.ofString (P := Tryd.prog) W' Tryd.underlying9 (strOfNums d)
    rw [show (strOfNums d).size = 32 by rw [← hdl]; simp [strOfNums, ByteArray.size], show byteCells (strOfNums d) = by8 d by
      rw [byteCells, strOfNums_data, List.map_map]
      refine List.map_congr_left fun y hy => ?_
      have := Sh.digest_rng _ y (by rw [← hd]; exact hy)
      simp
      omega] at h1
    exact h1)
  have HD32 := hid_of hdl
  have HFIN : Hid (beF g 8 ++ (beF n 4 ++ d) = encF b g) := hid_of (by rw [encF, ← hn, hd])
  have HRB := hid_of (fun (X : World) (hX : Below w.heap.size w X) => hR.at hX)
  have HEN := hid_of (encF_len b g)
  obtain ⟨i0, hi, hz0, hz1, hz2⟩ := info_parts u8E.info
  have HI := hid_of (And.intro hi (And.intro hz0 (And.intro hz1 hz2)))
  have HB2 := hid_of (show b.length ≤ 2200 ∧ n = b.length from ⟨hl, hn⟩)
  have n9 : n ≤ 2200 := by omega
  have HPAD := hid_of (show encF b g ++ List.replicate (z - 44) 0 = headK Sh.digest z b g from by rw [← pad_enc b g hz.1, padF, encF_len, List.take_of_length_le (by rw [encF_len]; exact hz.1)])
  have HZ := hid_of hz
  have z9 : z ≤ 5000 := hz.2
  clear hi hz0 hz1 hz2 hR hb hl hg hd hdl hn hz
  go_enter Tryd.func32, Tryd.ntmps32
  go_wp2_with (first
    | (go_at_call 42; ((with_reducible refine (C1.out).mono ?_); (rintro e w1 ⟨x1, k1, m1, rfl, q0, q1⟩)); have H1 := hid_of q1; have K1 := hid_of q0; clear q0 q1)
    | (go_at_call 42; ((with_reducible refine (C2.out w1 x1 k1 m1 H1.out K1.out).mono ?_); (rintro e w2 ⟨x2, k2, m2, rfl, q0, q1⟩)); have H2 := hid_of q1; have K2 := hid_of (show k2 = 12 from q0.trans (by rw [beF_len])); clear q0 q1)
    | (at_builtin; (refine wpList_app u8E rfl _ _ rfl (v := .slice (some ⟨w2.heap.size, 0, none⟩) 0 0) (l := []) rfl (ow_empty 5 w2) (vx := .slice x2 k2 m2) (m := by8 (beF g 8 ++ beF n 4)) rfl ((H2.out.rd (by rw [by8_length, List.length_append, beF_len, beF_len]; decide)).at (bel_alloc w2 _)) (by8_cells _) (by rw [by8_length, List.length_append, beF_len, beF_len]; decide) (by rw [by8_length, List.length_append, beF_len, beF_len]; decide) ?_); intro x3 k3 m3 w3 hn3 h3; have H3 : Hid (Ow 5 w2.heap.size w2 w3 (.slice x3 k3 m3) (by8 (beF g 8 ++ beF n 4))) := hid_of h3; have K3 := hid_of (show k3 = 12 from by rw [hn3, by8_length, List.length_append, beF_len, beF_len]; rfl); have O3 := hid_of (H2.out.later h3.bel); clear h3 hn3)
    | (at_builtin; (refine wpList_app u8E rfl _ _ rfl (v := .slice x3 k3 m3) (l := by8 (beF g 8 ++ beF n 4)) rfl H3.out (vx := .slice ao n cap) (m := by8 b) rfl (HRB.out w3 O3.out.bel) (by8_cells _) (by rw [by8_length, by8_length, List.length_append, beF_len, beF_len]; have := HB2.out; omega) (by rw [by8_length, by8_length, List.length_append, beF_len, beF_len]; have := HB2.out; omega) ?_); intro x4 k4 m4 w4 hn4 h4; rw [← by8_two, List.append_assoc] at h4; have R4 := hid_of (show Rd w4 (.slice x4 k4 m4) (by8 (beF g 8 ++ (beF n 4 ++ b))) from h4.rd (by rw [by8_length, List.length_append, List.length_append, beF_len, beF_len]; have := HB2.out; omega)); have K4 := hid_of (show k4 = 12 + n from by rw [hn4, by8_length, by8_length, List.length_append, beF_len, beF_len]; have := HB2.out; omega); have O4 := hid_of (H2.out.later h4.bel); clear h4 hn4)
    | (go_at_call 43; ((with_reducible refine (CS.out w4 x4 k4 m4 K4.out R4.out).mono ?_); (rintro e w5 ⟨rfl, q1⟩)); have O5 := hid_of (O4.out.later q1); clear q1)
    | (at_builtin; (refine wpList_append_src _ rfl _ _ 32 9 rfl w.heap.size 5 i0 (.int .u8 0) 1 1 Tryd.underlying32 HI.out.1 HI.out.2.1 HI.out.2.2.1 HI.out.2.2.2 rfl (by decide) (.slice x2 k2 m2) k2 (by8 (beF g 8 ++ beF n 4)) rfl (by have h9 := Ow.own O5.out; rw [by8_length, List.length_append, beF_len, beF_len] at h9; have := K2.out; subst this; exact h9) (.string (strOfNums d)) 32 (by8 d) rfl (HSR.out _) (by have := K2.out; unfold maxLen; omega) (by have := K2.out; omega) O5.out.size ?_); intro v6 w6 ho hg _ _; obtain ⟨x6, m6, rfl⟩ := own_shape ho; have O6 : Hid (Ow 5 w.heap.size w w6 (.slice x6 (k2 + 32) m6) (by8 (encF b g))) := hid_of (by
        have h9 := Ow.app (m := by8 d) O5.out ho (by rw [by8_length, by8_length, HD32.out, K2.out, List.length_append, beF_len, beF_len]) hg
        rw [← by8_two, List.append_assoc, HFIN.out] at h9; exact h9); clear ho hg))
  go_loopw [7] (fun v wr => ∃ (j m : Nat) (x : Option Addr) (c : Nat), v = .slice x m c ∧ Hid (j ≤ z - 44) ∧ Hid (m = 44 + j) ∧ Hid (Ow 5 w.heap.size w wr (.slice x m c) (by8 (encF b g ++ List.replicate j 0)))) (fun v _ => z - lnOf v)
  case atStart => exact ⟨0, k2 + 32, x6, m6, rfl, hid_of (Nat.zero_le _), hid_of (by rw [K2.out]), hid_of (by rw [List.replicate_zero, List.append_nil]; exact O6.out)⟩
  case round =>
    obtain ⟨j, m, x, c, rfl, hj, hm, ho⟩ := hrel
    have m9 : m ≤ 5000 := by have := hj.out; have := hm.out; have := HZ.out; omega
    by_cases hlt : m < z
    · have d1 : decide (m < z) = true := decide_eq_true hlt
      have d2 : (m : Int) < (z : Int) := by omega
      have HLT := hid_of hlt
      have HLN := hid_of (show (by8 (encF b g ++ List.replicate j 0)).length = m from by rw [by8_length, List.length_append, List.length_replicate, encF_len, hm.out])
      go_wp2_with (at_builtin; (refine wpList_app u8E rfl _ _ rfl (v := .slice x m c) (l := by8 (encF b g ++ List.replicate j 0)) rfl (ho.out.alloc _) (vx := .slice (some ⟨wr.heap.size, 0, none⟩) 1 1) (m := [.int .u8 0]) rfl (rd_new rfl rfl (by simp)) (by intro u hu; rw [List.mem_singleton.1 hu]; rfl) (by have := HLN.out; simp only [List.length_singleton]; omega) (by have := HLN.out; simp only [List.length_singleton]; omega) ?_); intro xo2 n2 c2 w2 hn2 h2; have H2 : Hid (Ow 5 w.heap.size w w2 (.slice xo2 n2 c2) (by8 (encF b g ++ List.replicate (j + 1) 0))) := hid_of (by rw [List.replicate_succ', ← List.append_assoc, by8_two]; exact h2); have HN2 := hid_of (show n2 = m + 1 from by rw [hn2, HLN.out]; rfl); clear h2 hn2)
      go_roundw
      case rel => exact ⟨j + 1, n2, xo2, c2, rfl, hid_of (by have := HLT.out; have := hm.out; omega), hid_of (by have := HN2.out; have := hm.out; omega), H2⟩
      case measure => have := HLT.out; have := HN2.out; simp [lnOf]; omega
    · have hz : m = z := by have := hj.out; have := hm.out; have := HZ.out; omega
      have HJ := hid_of (show j = z - 44 from by have := hm.out; omega)
      subst hz
      have d1 : decide (m < m) = false := by simp
      go_wp2
      go_ret
      have h9 := ho.out
      rw [HJ.out, HPAD.out] at h9
      exact ⟨x, c, rfl, h9⟩
end Go.Proofs.YtlffiebnieakjaaDoor

/- Checkpoint: what the laws ask besides. Bounds on sizes alone. -/
namespace Go.Proofs.YtlffiebnieakjaaDoor
open Go.RowKit
set_option maxRecDepth 100000
set_option maxHeartbeats 800000

/-- A law's end. -/
abbrev BoP (x : Bool) (w : World) : Ending → World → Prop := fun e w' => e = .returned (.bool x) ∧ Below w.heap.size w w'
theorem slot_hd {dg : List Int → List Int} {h d c : List Int} {g : Nat} (e : slotF dg h d = some (c, g)) : h = headK dg h.length c g := by
  unfold slotF at e
  simp only [] at e
  split at e
  · cases e
  · rename_i hn
    cases e
    have h4 := (not_or.1 (not_or.1 (not_or.1 hn).2).2).2
    exact Classical.not_not.1 h4
theorem new_slD (L z f n : Nat) (hf : f < L) : slD (newF L z) f n = none := by
  rw [slD_clean rfl]
  rw [show (newF L z).secs.getD f [] = List.replicate z 0 by simp [newF, List.getD_eq_getElem?_getD, hf]]
  exact slot_zero _ _ _
theorem new_nwD (L z f n : Nat) (hf : f + n < L) : nwD (newF L z) f n = ([], 0, 1) := by
  unfold nwD
  rw [new_slD L z f n (by omega), new_slD L z (f + n) n hf]
  rfl
theorem MK8 (n : Nat) (hn : n ≤ 1000000) : ∀ w : World, (Instr.makeSlice 32 (.int .i64 n) (.int .i64 n)).run Tryd.prog w = .ok (.slice (some ⟨w.heap.size, 0, none⟩) n n) (w.alloc (.cells (by8 (List.replicate n 0)).toArray 5)) := fun w => by
  have h := run_make_row' (P := Tryd.prog) 32 5 (.int .u8 0) 1 u8E.und u8E.info rfl .i64 .i64 n (by omega) (by omega) w
  rw [show madeCells #[Value.int .u8 0] n = (by8 (List.replicate n 0)).toArray by rw [← Array.toList_inj]; simp [toList_madeCells_one, by8]] at h
  exact h
theorem byt_zero (n : Nat) : Byt (List.replicate n 0) := fun x hx => by rw [List.mem_replicate] at hx; omega
end Go.Proofs.YtlffiebnieakjaaDoor

/- Checkpoint: byte strings and lists of them that came in. No condition. -/
namespace Go.Proofs.YtlffiebnieakjaaDoor
open Go.RowKit Go.ChangeShapes Go.WideShapes Go.ChangeAt

/-- Records: a row of rows, all of it in S. -/
def RB (S : Nat → Prop) (w : World) (v : Value) (R : List (List Int)) : Prop := ∃ xs : List Value, Rd w v xs ∧ (0 < xs.length → In S v) ∧ xs.length = R.length ∧ ∀ (i : Nat) (x : Value) (l : List Int), xs[i]? = some x → R[i]? = some l → CR S w x l
theorem RB.keep {S : Nat → Prop} {w w' : World} {v : Value} {R : List (List Int)} (h : RB S w v R) (k : Keeps S w w') : RB S w' v R := by
  obtain ⟨xs, h1, h2, h3, h4⟩ := h
  exact ⟨xs, h1.keepN h2 k.1 k.2, h2, h3, fun i x l hx hl => (h4 i x l hx hl).keep k⟩
theorem RB.mono {S T : Nat → Prop} {w : World} {v : Value} {R : List (List Int)} (h : RB S w v R) (hs : ∀ k, S k → T k) : RB T w v R := by
  obtain ⟨xs, h1, h2, h3, h4⟩ := h
  exact ⟨xs, h1, fun h0 => (h2 h0).mono hs, h3, fun i x l hx hl => (h4 i x l hx hl).mono hs⟩
theorem RB.len {S : Nat → Prop} {w : World} {a : Option Addr} {n c : Nat} {R : List (List Int)} (h : RB S w (.slice a n c) R) : n = R.length ∧ n ≤ c ∧ c ≤ 9223372036854775807 := by
  obtain ⟨xs, h1, h2, h3, h4⟩ := h
  have := rd_cut h1
  omega
theorem RB.entry {S : Nat → Prop} {w : World} {a : Option Addr} {n c : Nat} {R : List (List Int)} (h : RB S w (.slice a n c) R) {j : Nat} (hj : j < n) : ∃ (g o : Nat) (l : List Int) (b : Option Addr) (d : Nat), R[j]? = some l ∧ a = some ⟨g, o, none⟩ ∧ w.cell? ⟨g, o + j, none⟩ = some (.slice b l.length d) ∧ CR S w (.slice b l.length d) l := by
  have hn := h.len.1
  obtain ⟨xs, q1, q2, q3, q4⟩ := h
  obtain ⟨l, hl⟩ : ∃ l, R[j]? = some l := ⟨_, List.getElem?_eq_getElem (by omega)⟩
  obtain ⟨x, hx⟩ : ∃ x, xs[j]? = some x := ⟨_, List.getElem?_eq_getElem (by omega)⟩
  obtain ⟨g, o, e, k0⟩ := rd_at q1 hx
  have hcr := q4 j x l hx hl
  obtain ⟨b, d, rfl⟩ : ∃ ao c, x = .slice ao l.length c := by obtain ⟨a, c, e, _⟩ := hcr.1; rw [by8_length] at e; exact ⟨a, c, e⟩
  exact ⟨g, o, l, b, d, hl, e, k0, hcr⟩
theorem wf_u8 {n : Int} (h : (Lit.int .u8 n).wf = true) : 0 ≤ n ∧ n ≤ 255 := by
  simpa [Lit.wf, IntKind.min, IntKind.max, IntKind.signed, IntKind.bits] using h
theorem Tryd.cellsBysJ : Tryd.prog.cellsOf 32 = 1 := by kernel_rfl
set_option maxRecDepth 100000 in
theorem open_by8 {H : Type} {enc : TypeId × Value → H} {w : World} {fuel : Nat} {v : Value} {x : DataW H × List MemPlace} (h : DataW.trod enc Tryd.prog w 0 (fun _ => true) true fuel 32 [v] = some x) :
    ∃ l : List Int, Rd w v (by8 l) ∧ Byt l := by
  rcases open_ints Tryd.underlying32 Tryd.underlying5 (by kernel_rfl) h with ⟨e, _⟩ | ⟨a, len, cap, zs, e, _, hl, hm, hz, _, hcell, hwz⟩
  · simp only [List.cons.injEq, and_true] at e
    subst e
    exact ⟨[], ⟨none, 0, rfl, Nat.le_refl _, by omega, fun h => by simp [by8] at h⟩, fun x hx => by simp at hx⟩
  · simp only [List.cons.injEq, and_true] at e
    subst e
    obtain ⟨l, hl2, hwf, hr⟩ := (show IsRow .u8 w (some a) len cap zs from .inr ⟨_, rfl, hl, hm, by simpa using hz, hcell, hwz⟩).rd
    exact ⟨l, hr, fun x hx => wf_u8 (hwf x hx)⟩
theorem rd_in {w : World} {v : Value} {l : List Value} (h : Rd w v l) (h0 : 0 < l.length) : In (fun k => k < w.heap.size) v := fun a n c e => by
  obtain ⟨_, _, e1, _, _, h4⟩ := h
  obtain ⟨g, o, e2, hg, _⟩ := h4 h0
  rw [e1] at e
  simp only [Value.slice.injEq] at e
  have e3 := e.1
  rw [e2] at e3
  cases e3
  exact hg
set_option maxRecDepth 100000 in
theorem open_recs {H : Type} {enc : TypeId × Value → H} {w : World} {fuel : Nat} {v : Value} {x : DataW H × List MemPlace} (h : DataW.trod enc Tryd.prog w 0 (fun _ => true) true fuel 22 [v] = some x) :
    ∃ R : List (List Int), RB (fun k => k < w.heap.size) w v R ∧ ∀ l ∈ R, Byt l := by
  rcases Go.Deep.open_slice Tryd.underlying22 h with ⟨e, _⟩ | ⟨ad, len, cap, m, n, D, Pl, e, _, hlc, hcm, hm, _, hel⟩
  · simp only [List.cons.injEq, and_true] at e
    subst e
    exact ⟨[], ⟨[], ⟨none, 0, rfl, Nat.le_refl _, by simp, fun h => by simp at h⟩, fun h => by simp at h, rfl, fun i x l hx => by simp at hx⟩, by simp⟩
  · simp only [List.cons.injEq, and_true] at e
    subst e
    simp only [if_true] at hm
    subst hm
    unfold maxLen at hcm
    have hex : ∀ i, i < len → ∃ y : Value × List Int, w.cell? (ad.add i) = some y.1 ∧ Rd w y.1 (by8 y.2) ∧ Byt y.2 := by
      intro i hi
      obtain ⟨cs', h1, h2⟩ := hel i (by omega)
      rw [Tryd.cellsBysJ, Nat.mul_one] at h1
      obtain ⟨_, hl, hc⟩ := World.cells?_some h1
      match cs', hl with
      | [u], _ =>
        obtain ⟨l, r1, r2⟩ := open_by8 h2
        have := hc 0 (by omega)
        rw [show (ad.add i).add 0 = ad.add i by unfold Addr.add; split <;> simp_all] at this
        exact ⟨(u, l), this, r1, r2⟩
    by_cases h0 : len = 0
    · subst h0
      exact ⟨[], ⟨[], ⟨_, _, rfl, by simp, by omega, fun h => by simp at h⟩, fun h => by simp at h, rfl, fun i x l hx => by simp at hx⟩, by simp⟩
    · haveI : Inhabited (Value × List Int) := ⟨(.slice none 0 0, [])⟩
      obtain ⟨f, hf⟩ := Go.Deep.choose_lt hex
      have hx0 := spot_none (hf 0 (by omega)).1
      have had : ad = ⟨ad.block, ad.off, none⟩ := by rwa [show ad.add 0 = ad by rfl] at hx0
      have hrd : Rd w (.slice (some ad) len m) ((List.range len).map fun i => (f i).1) := ⟨some ad, m, by simp, by simpa using hlc, by omega, fun _ => ⟨ad.block, ad.off, by rw [← had], by
        have := (hf 0 (by omega)).1
        rw [show ad.add 0 = ad by rfl] at this
        exact World.block_lt_of_cell? w _ this, fun j u hu => by
        have hj : j < len := by have := (List.getElem?_eq_some_iff.1 hu).1; simpa using this
        have h7 := (hf j hj).1
        rw [had, Addr.add_mid] at h7
        rw [h7, ← hu]
        simp [hj]⟩⟩
      refine ⟨(List.range len).map fun i => (f i).2, ⟨(List.range len).map fun i => (f i).1, hrd, fun h => rd_in hrd h, by simp, fun i x l hx hl => ?_⟩, fun l hl => ?_⟩
      · have hi : i < len := by have := (List.getElem?_eq_some_iff.1 hx).1; simpa using this
        simp [hi] at hx hl
        subst hx hl
        exact ⟨(hf i hi).2.1, fun h => rd_in (hf i hi).2.1 (by rwa [by8_length])⟩
      · obtain ⟨i, hi, rfl⟩ := List.mem_map.1 hl
        exact (hf i (by simpa using hi)).2.2
theorem Tryd.cellsBolJ : Tryd.prog.cellsOf 4 = 1 := by kernel_rfl
set_option maxRecDepth 100000 in
theorem open_bls {H : Type} {enc : TypeId × Value → H} {w : World} {fuel : Nat} {v : Value} {x : DataW H × List MemPlace} (h : DataW.trod enc Tryd.prog w 0 (fun _ => true) true fuel 52 [v] = some x) :
    ∃ l : List Bool, Rd w v (bls l) := by
  rcases Go.Deep.open_bools Tryd.underlying52 Tryd.underlying4 (by kernel_rfl) h with ⟨e, _⟩ | ⟨a, len, cap, B, e, _, hl, hm, _, hcell⟩
  · simp only [List.cons.injEq, and_true] at e
    subst e
    exact ⟨[], ⟨none, 0, rfl, Nat.le_refl _, by omega, fun h => by simp [bls] at h⟩⟩
  · simp only [List.cons.injEq, and_true] at e
    subst e
    unfold maxLen at hm
    have hll : (bls ((List.range len).map B)).length = len := by simp [bls]
    refine ⟨(List.range len).map B, some a, cap, by rw [hll], by rw [hll]; exact hl, by omega, fun h0 => ?_⟩
    rw [hll] at h0
    have h6 := hcell 0 (by omega)
    rw [show a.add 0 = a by rfl] at h6
    have hx := spot_none h6
    refine ⟨a.block, a.off, by rw [← hx], World.block_lt_of_cell? w _ h6, fun j u hu => ?_⟩
    have hj : j < len := by
      have := (List.getElem?_eq_some_iff.1 hu).1
      rw [hll] at this; exact this
    have h7 := hcell j (by omega)
    rw [hx, Addr.add_mid] at h7
    rw [h7, ← hu]
    simp [bls, hj]
end Go.Proofs.YtlffiebnieakjaaDoor

/- Checkpoint: the disk that the laws make. Bounds on sizes alone. -/
namespace Go.Proofs.YtlffiebnieakjaaDoor
open Go.RowKit
set_option maxRecDepth 100000
set_option maxHeartbeats 6400000

/-- The disk behind k writes. -/
def wrM (L z : Nat) (R : List (List Int)) (k : Nat) : DM := { newF L z with cache := (List.range k).map fun i => (i, padF (R.getD i []) z) }
/-- The disk that is made. -/
def mkM (L z : Nat) (R : List (List Int)) : DM := flat (wrM L z R (min R.length L))
theorem wrM_nf (L z : Nat) (R : List (List Int)) (k : Nat) : NF (wrM L z R k) := ⟨rfl, rfl⟩
theorem wrM_succ (L z : Nat) (R : List (List Int)) (k : Nat) (h : k < L) : writeF (wrM L z R k) (k : Nat) (padF (R.getD k []) z) = (0, wrM L z R (k + 1)) := by
  rw [nf_write_eq (wrM_nf L z R k) (by simp [wrM, newF]; exact h) (by rw [padF_len]; rfl)]
  congr 1
  simp [wrM, List.range_succ]
theorem mkM_nf (L z : Nat) (R : List (List Int)) : NF (mkM L z R) := ⟨rfl, rfl⟩
theorem mkM_sz (L z : Nat) (R : List (List Int)) : (mkM L z R).sz = z := rfl
theorem mkM_cache (L z : Nat) (R : List (List Int)) : (mkM L z R).cache = [] := rfl
theorem mkM_len (L z : Nat) (R : List (List Int)) : (mkM L z R).secs.length = L := by
  show (flat _).secs.length = L
  rw [flat_len]
  simp [wrM, newF]
theorem padF_byt {x : List Int} (h : Byt x) (z : Nat) : Byt (padF x z) := fun y hy => by
  rw [padF] at hy
  rcases List.mem_append.1 hy with h1 | h1
  · exact h y (List.mem_of_mem_take h1)
  · rw [List.mem_replicate] at h1; omega
theorem mkM_rng (L z : Nat) {R : List (List Int)} (h : ∀ l ∈ R, Byt l) : RngM (mkM L z R) := by
  refine ⟨rng_put _ _ ?_ ?_, fun p hp => by simp [mkM, flat] at hp⟩
  · exact (rng_new L z).1
  · intro p hp
    simp only [wrM, List.mem_map, List.mem_range] at hp
    obtain ⟨i, hi, rfl⟩ := hp
    refine padF_byt ?_ z
    rw [List.getD_eq_getElem?_getD, List.getElem?_eq_getElem (by omega)]
    exact h _ (List.getElem_mem _)
theorem mkM_nil (L z : Nat) : mkM L z [] = newF L z := by
  unfold mkM
  rw [show min ([] : List (List Int)).length L = 0 from Nat.zero_min L]
  exact flat_clean rfl
/-- A row that is filled with the first k bytes of x. -/
def fiK (x : List Int) (z k : Nat) : List Int := x.take k ++ List.replicate (z - k) 0
theorem fiK_len {x : List Int} {z k : Nat} (h : k ≤ z) (h2 : k ≤ x.length) : (fiK x z k).length = z := by
  rw [fiK, List.length_append, List.length_take, List.length_replicate]
  omega
theorem fiK_step {x : List Int} {z k : Nat} (h : k < z) (h2 : k < x.length) : (fiK x z k).set k (x.getD k 0) = fiK x z (k + 1) := by
  have hl : (x.take k).length = k := by rw [List.length_take]; omega
  rw [fiK, fiK, List.set_append_right _ _ (by omega), hl, Nat.sub_self, show z - k = (z - (k + 1)) + 1 by omega, List.replicate_succ, List.set_cons_zero, List.take_add_one, List.getElem?_eq_getElem h2, List.getD_eq_getElem?_getD, List.getElem?_eq_getElem h2, Option.toList_some, List.append_assoc]
  rfl
theorem fiK_full (x : List Int) (z : Nat) : fiK x z (min z x.length) = padF x z := by
  unfold fiK padF
  rcases Nat.le_total z x.length with h | h
  · rw [Nat.min_eq_left h, Nat.sub_self, show z - x.length = 0 by omega]
  · rw [Nat.min_eq_right h, List.take_of_length_le (Nat.le_refl _), List.take_of_length_le h]
theorem by8_setB (l : List Int) (k : Nat) (x : Int) : (by8 l).set k (.int .u8 x) = by8 (l.set k x) := by simp [by8, List.map_set]
theorem mk_shape (s : Nat) (hs : s ≤ 255) : IntKind.u8.wrap ((s : Int).tmod 8) = ((s % 8 : Nat) : Int) ∧ IntKind.u8.wrap ((s : Int).tdiv 8) = ((s / 8 : Nat) : Int) := by
  refine ⟨?_, ?_⟩
  · rw [Int.tmod_eq_emod_of_nonneg (by omega)]
    unfold IntKind.wrap
    simp [IntKind.signed, IntKind.bits]
    omega
  · rw [Int.tdiv_eq_ediv_of_nonneg (by omega)]
    unfold IntKind.wrap
    simp [IntKind.signed, IntKind.bits]
    omega
theorem u8_num {x : Int} (h : (Lit.int .u8 x).wf = true) : ∃ n : Nat, x = n ∧ n ≤ 255 := by
  obtain ⟨h1, h2⟩ := wf_u8 h
  exact ⟨x.toNat, by omega, by omega⟩
theorem row_in {w : World} {a : Option Addr} {n c : Nat} {zs : List Int} (h : IsRow .u8 w a n c zs) : ∃ l, Rd w (.slice a n c) (by8 l) ∧ Byt l := by
  obtain ⟨l, _, hwf, hr⟩ := h.rd
  exact ⟨l, hr, fun x hx => wf_u8 (hwf x hx)⟩
theorem RB.all {B : Nat} {w : World} {a : Option Addr} {n c : Nat} {R : List (List Int)} (h : RB (fun k => k < B) w (.slice a n c) R) {j : Nat} (hj : j < n) : ∃ (g o : Nat) (l : List Int) (b : Option Addr) (d : Nat), R[j]? = some l ∧ a = some ⟨g, o, none⟩ ∧ ∀ X, Below B w X → X.cell? ⟨g, o + j, none⟩ = some (.slice b l.length d) ∧ CR (fun k => k < B) X (.slice b l.length d) l := by
  obtain ⟨g, o, l, b, d, h1, h2, h3, h4⟩ := h.entry hj
  have hg : g < B := by
    obtain ⟨xs, q1, q2, q3, q4⟩ := h
    have hl := (rd_cut q1).1
    exact q2 (by omega) ⟨g, o, none⟩ n c (by rw [h2])
  exact ⟨g, o, l, b, d, h1, h2, fun X hX => ⟨(hX.cell (p := ⟨g, o + j, none⟩) hg).trans h3, h4.keep ⟨hX.size, fun k hk _ => hX.block k hk⟩⟩⟩
theorem make_any {B : Nat} {T : Nat → Prop} (s : Nat) (hs : s ≤ 255) (a : Option Addr) (len cap : Nat) (R : List (List Int)) (w : World) (t : TR B T w) (hR : RB (fun k => k < B) w (.slice a len cap) R) (h20 : len ≤ 20) :
    Calls Tryd.prog 11 #[.int .u8 s, .slice a len cap] w fun e w' => ∃ b, e = .returned (.pointer (some ⟨b, 0, none⟩)) ∧ DR B T w' b (mkM (8 + s % 8) (64 + s / 8) R) ∧ Below B w w' := by
  obtain ⟨L, hL⟩ : ∃ L, L = 8 + s % 8 := ⟨_, rfl⟩
  obtain ⟨z, hz⟩ : ∃ z, z = 64 + s / 8 := ⟨_, rfl⟩
  have hlen := hR.len.1
  have hcap := hR.len.2.1
  have hcap2 := hR.len.2.2
  obtain ⟨p, hp⟩ : ∃ p, p = s % 8 := ⟨_, rfl⟩
  obtain ⟨q, hq⟩ : ∃ q, q = s / 8 := ⟨_, rfl⟩
  have p8 : p < 8 := by omega
  have q32 : q < 32 := by omega
  have m1 : (s : Int) % 8 = (p : Int) := by omega
  have m2 : (s : Int) / 8 = (q : Int) := by omega
  have m1t : (s : Int).tmod 8 = (p : Int) := by rw [Int.tmod_eq_emod_of_nonneg (by omega), m1]
  have m2t : (s : Int).tdiv 8 = (q : Int) := by rw [Int.tdiv_eq_ediv_of_nonneg (by omega), m2]
  have m3 : IntKind.i64.wrap (8 + (p : Int)) = (L : Int) := by rw [show 8 + (p : Int) = (L : Int) by omega]; exact IntWalk.i64_in _ (by omega)
  have m3b : 8 + (p : Int) = (L : Int) := by omega
  have m4 : IntKind.i64.wrap (64 + (q : Int)) = (z : Int) := by rw [show 64 + (q : Int) = (z : Int) by omega]; exact IntWalk.i64_in _ (by omega)
  have m4b : 64 + (q : Int) = (z : Int) := by omega
  have hL2 : 8 ≤ L ∧ L ≤ 15 := by omega
  have hz2 : 64 ≤ z ∧ z ≤ 95 := by omega
  have CN := hid_of (fun (X : World) (hX : TR B T X) => show Calls Tryd.prog 29 #[.int .i64 (L : Nat), .int .i64 (z : Nat)] X (fun e w' => ∃ b, e = .returned (.tuple #[.pointer (some ⟨b, 0, none⟩), .int .i64 0]) ∧ DR B T w' b (wrM L z R 0) ∧ Below X.heap.size X w') from (dr_new L z (by omega) (by omega) (by omega) (by omega) X).mono (fun e w' ⟨b, q1, q2, q3⟩ => ⟨b, q1, by
    obtain ⟨SD, h1, h2⟩ := q2
    exact ⟨SD, h1, fun k hk => ⟨Nat.le_trans hX.hB (h2 k hk).1, (h2 k hk).2.1, fun e => (h2 k hk).2.2 (hX.lt k e)⟩⟩, q3⟩))
  have hwl : ∀ k, (wrM L z R k).secs.length = L := fun k => by simp [wrM, newF]
  have CSE := hid_of (fun (X : World) (b k : Nat) (d : DR B T X b (wrM L z R k)) => show Calls Tryd.prog 12 #[.pointer (some ⟨b, 0, none⟩)] X (fun e w' => e = .returned (.int .i64 (L : Nat)) ∧ Below X.heap.size X w') from by have h9 := d.sectors; rw [hwl k] at h9; exact h9)
  have CSZ := hid_of (fun (X : World) (b k : Nat) (d : DR B T X b (wrM L z R k)) => show Calls Tryd.prog 19 #[.pointer (some ⟨b, 0, none⟩)] X (fun e w' => e = .returned (.int .i64 (z : Nat)) ∧ Below X.heap.size X w') from d.size)
  have CWR := hid_of (fun (TT : Nat → Prop) (X : World) (b k : Nat) (v : Option Addr) (hk : k < L) (d : DR B TT X b (wrM L z R k)) (t : TR B TT X) (hin : CR TT X (.slice v z z) (padF (R.getD k []) z)) => show Calls Tryd.prog 24 #[.pointer (some ⟨b, 0, none⟩), .int .i64 (k : Nat), .slice v z z] X (fun e w' => e = .returned (.int .i64 0) ∧ DR B TT w' b (wrM L z R (k + 1)) ∧ Below B X w' ∧ Keeps TT X w') from by
    have h9 := d.write t k (by omega) (by simp [wrM]; omega) v z z _ hin
    rw [show (writeF (wrM L z R k) (k : Nat) (padF (R.getD k []) z)).1 = 0 by rw [wrM_succ L z R k hk], show (writeF (wrM L z R k) (k : Nat) (padF (R.getD k []) z)).2 = wrM L z R (k + 1) by rw [wrM_succ L z R k hk]] at h9
    exact h9)
  obtain ⟨n, hn⟩ : ∃ n, n = min len L := ⟨_, rfl⟩
  have CSY := hid_of (fun (X : World) (b : Nat) (d : DR B T X b (wrM L z R n)) (t : TR B T X) => show Calls Tryd.prog 26 #[.pointer (some ⟨b, 0, none⟩)] X (fun e w' => e = .returned (.int .i64 0) ∧ DR B T w' b (mkM L z R) ∧ Below B X w' ∧ Keeps T X w') from by
    have h9 := d.sync t (by simp [wrM]; omega)
    rw [show (syncF (wrM L z R n)).1 = 0 by rw [nf_sync_eq (wrM_nf L z R n)], show (syncF (wrM L z R n)).2 = mkM L z R by rw [nf_sync_eq (wrM_nf L z R n), mkM, ← hlen, ← hn]] at h9
    exact h9)
  have MK := MK8 z (by omega)
  have HALL := hid_of (fun (j : Nat) (hj : j < len) => hR.all hj)
  have HTR := hid_of (fun (X : World) (hX : w.heap.size ≤ X.heap.size) => t.same hX)
  have HBL := hid_of t.hB
  have HNL := hid_of hn
  rw [← hL, ← hz]
  clear hL hz hp hq hwl hR t hn hlen hs
  go_enter Tryd.func11, Tryd.ntmps11
  go_wp2_with (first
    | (go_at_call 29; go_loud (((with_reducible refine (CN.out w (HTR.out w (Nat.le_refl _))).mono ?_); (rintro e w1 ⟨b, rfl, q1, q2⟩)); have D1 := hid_of q1; have B1 := hid_of (q2.mono HBL.out); clear q1 q2)))
  go_loopw [7] (fun iv wr => ∃ i : Nat, iv = .int .i64 i ∧ Hid (i ≤ n) ∧ Hid (DR B T wr b (wrM L z R i)) ∧ Hid (Below B w wr)) (fun iv _ => 100 - (intOf iv).toNat)
  case atStart => exact ⟨0, rfl, hid_of (Nat.zero_le _), D1, B1⟩
  case round =>
    obtain ⟨i, rfl, hi, hd, hb⟩ := hrel
    have hi9 : i ≤ 20 := by have := hi.out; have := HNL.out; omega
    by_cases hin : i < n
    · have HIN := hid_of (show i + 1 ≤ n from hin)
      have il : i < len := by have := HNL.out; omega
      have iL : i < L := by have := HNL.out; omega
      have d1 : decide ((i : Int) < (len : Int)) = true := decide_eq_true (by omega)
      have d1b : (i : Int) < (len : Int) := by omega
      have d2 : decide ((i : Int) < (L : Int)) = true := decide_eq_true (by omega)
      have d2b : (i : Int) < (L : Int) := by omega
      obtain ⟨g, o, x, xa, xc, hx, rfl, hall⟩ := HALL.out i il
      have HALL2 := hid_of hall
      obtain ⟨xb, hxb⟩ : ∃ xb, xb = min z x.length := ⟨_, rfl⟩
      have HXB := hid_of hxb
      have HX := hid_of (show R.getD i [] = x from by rw [List.getD_eq_getElem?_getD, hx]; rfl)
      obtain ⟨xn, hxn⟩ : ∃ xn, xn = x.length := ⟨_, rfl⟩
      have HXN := hid_of hxn
      have x9 := (rd_cut (hall wr hb.out).2.1).2
      rw [← hxn] at x9 hall HALL2
      have xn9 : xn ≤ 9223372036854775807 := by omega
      have HIL := hid_of (And.intro il iL)
      clear hx hxb hxn hall x9 il iL
      go_wp2_with (first
        | (go_at_call 12; go_loud (((with_reducible refine (CSE.out wr b i hd.out).mono ?_); (rintro e w2 ⟨rfl, q2⟩)); have D2 := hid_of (hd.out.bel0 q2); have B2 := hid_of (hb.out.trans (q2.mono (Nat.le_trans HBL.out hb.out.size))); clear q2))
        | (go_at_call 19; go_loud (((with_reducible refine (CSZ.out w2 b i D2.out).mono ?_); (rintro e w3 ⟨rfl, q2⟩)); have D3 := hid_of (D2.out.bel0 q2); have B3 := hid_of (B2.out.trans (q2.mono (Nat.le_trans HBL.out B2.out.size))); clear q2)))
      obtain ⟨G, hG⟩ : ∃ G, G = w3.heap.size := ⟨_, rfl⟩
      obtain ⟨w4, hw4⟩ : ∃ w4, w4 = w3.alloc (.cells (by8 (List.replicate z 0)).toArray 5) := ⟨_, rfl⟩
      have b4 : Below w3.heap.size w3 w4 := by rw [hw4]; exact bel_alloc w3 _
      have r4 : w4.heap[G]? = some (.cells (by8 (fiK x z 0)).toArray 5 (0, 0)) := by
        rw [hw4, hG, fiK, List.take_zero, List.nil_append, Nat.sub_zero]; exact heap_alloc_new w3 _
      obtain ⟨TT, hTT⟩ : ∃ TT, TT = Tn T w3 w4 := ⟨_, rfl⟩
      have D4 := hid_of (show DR B TT w4 b (wrM L z R i) by rw [hTT]; exact D3.out.bel b4)
      have T4 := hid_of (show TR B TT w4 by rw [hTT]; exact (HTR.out w3 B3.out.size).next b4.size)
      have B4 := hid_of (B3.out.trans (b4.mono (Nat.le_trans HBL.out B3.out.size)))
      have HTG := hid_of (show TT G by rw [hTT, hG]; exact Or.inr ⟨Nat.le_refl _, by rw [← hG]; exact lt_of_block r4⟩)
      have HTS := hid_of (show ∀ k, T k → TT k by rw [hTT]; exact fun k hk => Or.inl hk)
      have HBG := hid_of (show B ≤ G by rw [hG]; exact Nat.le_trans HBL.out B3.out.size)
      have R4 := hid_of r4
      rw [← hw4, ← hG]
      clear hG hw4 hTT b4 r4
      generalize wr = wo at *
      go_loopw [9] (fun kv wx => ∃ k : Nat, kv = .int .i64 k ∧ Hid (k ≤ xb) ∧ Hid (DR B TT wx b (wrM L z R i)) ∧ Hid (TR B TT wx) ∧ Hid (Below B w wx) ∧ Hid (wx.heap[G]? = some (.cells (by8 (fiK x z k)).toArray 5 (0, 0)))) (fun kv _ => 100 - (intOf kv).toNat)
      case atStart => exact ⟨0, rfl, hid_of (Nat.zero_le _), D4, T4, B4, R4⟩
      case round =>
        obtain ⟨k, rfl, hk, hd2, ht2, hb2, hr2⟩ := hrel
        have k9 : k ≤ 95 := by have := hk.out; have := HXB.out; omega
        obtain ⟨e1, e2⟩ := HALL2.out wr hb2.out
        have E2 := hid_of e2
        clear e2
        by_cases hkn : k < xb
        · have kz : k < z := by have := HXB.out; omega
          have kx : k < xn := by have := HXB.out; have := HXN.out; omega
          have f1 : decide ((k : Int) < (z : Int)) = true := decide_eq_true (by omega)
          have f1b : (k : Int) < (z : Int) := by omega
          have f2 : decide ((k : Int) < (xn : Int)) = true := decide_eq_true (by omega)
          have f2b : (k : Int) < (xn : Int) := by omega
          obtain ⟨g2, o2, rfl, hy⟩ := rd_at E2.out.1 (i := k) (t := .int .u8 (x.getD k 0)) (by rw [by8, List.getElem?_map, List.getD_eq_getElem?_getD, List.getElem?_eq_getElem (by have := HXN.out; omega)]; rfl)
          have hxr : ∃ y, y = x.getD k 0 := ⟨_, rfl⟩
          obtain ⟨y, hyv⟩ := hxr
          rw [← hyv] at hy
          have HYV := hid_of hyv
          have c0 := cell_blk hr2.out (j := k) (v := .int .u8 ((fiK x z k).getD k 0)) (by rw [by8, List.getElem?_map, List.getD_eq_getElem?_getD, List.getElem?_eq_getElem (by rw [fiK_len (by omega) (by have := HXN.out; omega)]; exact kz)]; rfl)
          have f0 := frozen_of_row wr G k _ _ hr2.out
          have HKZ := hid_of (And.intro kz kx)
          have HKN := hid_of hkn
          clear hyv kz kx hkn
          go_wp2
          go_roundw
          case rel =>
            refine ⟨k + 1, by go_num, HKN, hid_of (dr_set hd2.out HTG.out _), hid_of (ht2.out.same (Kept.set _ _ _ _).size), hid_of (hb2.out.setCell (p := ⟨G, k, none⟩) HBG.out _), hid_of ?_⟩
            have h9 := blk_setCell (k := k) (u := .int .u8 y) hr2.out
            rw [by8_setB, HYV.out, fiK_step HKZ.out.1 (by rw [← HXN.out]; exact HKZ.out.2)] at h9
            rw [HYV.out]
            exact h9
          case measure => simp [intOf]; omega
        · have hkx : k = xb := by have := hk.out; omega
          have HFU := hid_of (show fiK x z k = padF (R.getD i []) z from by rw [hkx, HXB.out, HX.out]; exact fiK_full x z)
          have W4 := hid_of (CWR.out TT wr b i (some ⟨G, 0, none⟩) HIL.out.2 hd2.out ht2.out ⟨rd_blk (by have h9 := hr2.out; rw [HFU.out] at h9; exact h9) (padF_len _ _) (by omega), fun _ a k' c e => by cases e; exact HTG.out⟩)
          by_cases hkz : k < z
          · have f1 : decide ((k : Int) < (z : Int)) = true := decide_eq_true (by omega)
            have f1b : (k : Int) < (z : Int) := by omega
            have kx : ¬ k < xn := by have := HXB.out; have := HXN.out; omega
            have f2 : decide ((k : Int) < (xn : Int)) = false := decide_eq_false (by omega)
            have f2b : ¬ (k : Int) < (xn : Int) := by omega
            clear hkz kx hkx hkn
            go_wp2_with (first
              | (go_at_call 24; go_loud (((with_reducible refine (W4.out).mono ?_); (rintro e w6 ⟨rfl, q1, q2, q3⟩)); have D6 := hid_of (q1.sub HTS.out); have B6 := hid_of (hb2.out.trans q2); clear q1 q2 q3)))
            go_roundw
            case rel => exact ⟨i + 1, by go_num, hid_of HIN.out, D6, B6⟩
            case measure => simp [intOf]; omega
          · have f1 : decide ((k : Int) < (z : Int)) = false := decide_eq_false (by omega)
            have f1b : ¬ (k : Int) < (z : Int) := by omega
            clear hkz hkx hkn
            go_wp2_with (first
              | (go_at_call 24; go_loud (((with_reducible refine (W4.out).mono ?_); (rintro e w6 ⟨rfl, q1, q2, q3⟩)); have D6 := hid_of (q1.sub HTS.out); have B6 := hid_of (hb2.out.trans q2); clear q1 q2 q3)))
            go_roundw
            case rel => exact ⟨i + 1, by go_num, hid_of HIN.out, D6, B6⟩
            case measure => simp [intOf]; omega
    · have hin2 : i = n := by have := hi.out; omega
      subst hin2
      by_cases hil : i < len
      · have iL : i = L := by have := HNL.out; omega
        have d1 : decide ((i : Int) < (len : Int)) = true := decide_eq_true (by omega)
        have d1b : (i : Int) < (len : Int) := by omega
        have d2 : decide ((i : Int) < (L : Int)) = false := decide_eq_false (by omega)
        have d2b : ¬ (i : Int) < (L : Int) := by omega
        clear hil iL
        go_wp2_with (first
          | (go_at_call 12; go_loud (((with_reducible refine (CSE.out wr b i hd.out).mono ?_); (rintro e w2 ⟨rfl, q2⟩)); have D2 := hid_of (hd.out.bel0 q2); have B2 := hid_of (hb.out.trans (q2.mono (Nat.le_trans HBL.out hb.out.size))); clear q2))
          | (go_at_call 26; go_loud (((with_reducible refine (CSY.out w2 b D2.out (HTR.out w2 B2.out.size)).mono ?_); (rintro e w3 ⟨rfl, q1, q2, q3⟩)); have D3 := hid_of q1; have B3 := hid_of (B2.out.trans q2); clear q1 q2 q3)))
        go_ret
        exact ⟨b, rfl, D3.out, B3.out⟩
      · have d1 : decide ((i : Int) < (len : Int)) = false := decide_eq_false (by omega)
        have d1b : ¬ (i : Int) < (len : Int) := by omega
        clear hil
        go_wp2_with (first
          | (go_at_call 26; go_loud (((with_reducible refine (CSY.out wr b hd.out (HTR.out wr hb.out.size)).mono ?_); (rintro e w3 ⟨rfl, q1, q2, q3⟩)); have D3 := hid_of q1; have B3 := hid_of (hb.out.trans q2); clear q1 q2 q3)))
        go_ret
        exact ⟨b, rfl, D3.out, B3.out⟩
end Go.Proofs.YtlffiebnieakjaaDoor
