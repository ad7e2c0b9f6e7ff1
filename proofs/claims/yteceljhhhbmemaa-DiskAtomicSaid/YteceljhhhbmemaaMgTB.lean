/- Texts in one: DgRef, DgRd, DgWr, DgSy, DgCr, QdRow, DsOpn, DsIfc, DgI, DsAwk, DsLw1. -/
import Derived.Test.YteceljhhhbmemaaMgTA
import Derived.Laws.CopyOwn
import Derived.Deep.RegionLaw
import Derived.Carry
import Derived.Deep.QuietTactic
import Derived.BigQuiet
import Derived.Test.YteceljhhhbmemaaRows
import Derived.Deep.Strs
import Derived.Deep.Grids
import Derived.Lib.SmallJoins
import Derived.ProofKit
set_option linter.unusedVariables false
set_option linter.unusedSimpArgs false
/- The program's disk in memory; its small functions. Bounds on sizes alone. -/
namespace Go.Proofs.Yteceljhhhbmemaa
open Go.RowKit Go.Maps
set_option maxRecDepth 100000
set_option maxHeartbeats 1600000

theorem lookF_lt {c : List (Nat × List Int)} {N s : Nat} (hc : ∀ p ∈ c, p.1 < N) : ∀ k l, lookF c s k = some l → s < N
  | 0, l, h => by cases h
  | k + 1, l, h => by
    rw [lookF] at h
    split at h
    · rename_i p hp
      split at h
      · rename_i e; rw [← e]; exact hc p (List.mem_of_getElem? hp)
      · exact lookF_lt hc k l h
    · exact lookF_lt hc k l h
namespace Dg
abbrev Qp (S : Nat → Prop) (b bd bl : Nat) (vc : Value) : Nat → Prop := fun k => S k ∧ k ≠ b ∧ k ≠ bd ∧ k ≠ bl ∧ vc.ownBlock ≠ some k
/-- The program's disk in block b, all of it in S. -/
structure DK (S : Nat → Prop) (w : World) (b : Nat) (M : DM) (bd bl : Nat) (vc : Value) (Dd Dl : DU) (fd : Nat → Option (List Int)) (cg : Bool) (cd : Int) (ps : List PV) : Prop where
  sb : S b
  sd : S bd ∧ bd ≠ b
  sl : S bl ∧ bl ≠ b ∧ bl ≠ bd
  box : w.heap[b]? = some (.cells [.int .i64 M.secs.length, .int .i64 M.sz, .map (some bd), vc, .map (some bl), .bool M.off, .bool cg, .int .i64 cd].toArray 59 (0, 0))
  dur : MapR (Qp S b bd bl vc) w M.sz M.secs.length bd Dd fd
  sec : ∀ s, s < M.secs.length → M.secs[s]? = some ((fd s).getD (List.replicate M.sz 0))
  lat : MapR (Qp S b bd bl vc) w M.sz M.secs.length bl Dl (fun s => lookF M.cache s M.cache.length)
  cac : w.ownsRow 0 65 2 vc M.cache.length (prs ps)
  ci : ∀ k, vc.ownBlock = some k → S k ∧ k ≠ b ∧ k ≠ bd ∧ k ≠ bl
  ent : ∀ (i : Nat) (p : PV) (q : Nat × List Int), ps[i]? = some p → M.cache[i]? = some q → p.1 = .int .i64 q.1 ∧ (∃ g, p.2 = .slice (some ⟨g, 0, none⟩) M.sz M.sz) ∧ CR (Qp S b bd bl vc) w p.2 q.2
  ok : M.Ok
  cnt : (cg = true ∧ cd = M.cnt ∧ 0 ≤ M.cnt) ∨ (cg = false ∧ M.cnt = -1)
def DS (S : Nat → Prop) (w : World) (b : Nat) (M : DM) : Prop := ∃ bd bl vc Dd Dl fd cg cd ps, DK S w b M bd bl vc Dd Dl fd cg cd ps
section
variable {S T : Nat → Prop} {w w' : World} {b : Nat} {M : DM} {bd bl : Nat} {vc : Value} {Dd Dl : DU} {fd : Nat → Option (List Int)} {cg : Bool} {cd : Int} {ps : List PV}
theorem DK.blt (h : DK S w b M bd bl vc Dd Dl fd cg cd ps) : b < w.heap.size := lt_of_block h.box
theorem DK.keep (h : DK S w b M bd bl vc Dd Dl fd cg cd ps) (k : Keeps S w w') : DK S w' b M bd bl vc Dd Dl fd cg cd ps := by
  have kq : Keeps (Qp S b bd bl vc) w w' := ⟨k.1, fun x hx hl => k.2 x hx.1 hl⟩
  exact ⟨h.sb, h.sd, h.sl, (k.2 b h.sb h.blt).trans h.box, h.dur.keep (k.2 bd h.sd.1 h.dur.blt) kq, h.sec, h.lat.keep (k.2 bl h.sl.1 h.lat.blt) kq, own_same h.cac fun x hx => k.2 x (h.ci x hx).1 (h.cac.lt x hx).2, h.ci, fun i p q hp hq => ⟨(h.ent i p q hp hq).1, (h.ent i p q hp hq).2.1, (h.ent i p q hp hq).2.2.keep kq⟩, h.ok, h.cnt⟩
theorem DK.mono (h : DK S w b M bd bl vc Dd Dl fd cg cd ps) (hs : ∀ k, S k → T k) : DK T w b M bd bl vc Dd Dl fd cg cd ps :=
  have kq : ∀ k, Qp S b bd bl vc k → Qp T b bd bl vc k := fun k hk => ⟨hs k hk.1, hk.2⟩
  ⟨hs b h.sb, ⟨hs _ h.sd.1, h.sd.2⟩, ⟨hs _ h.sl.1, h.sl.2⟩, h.box, h.dur.mono kq, h.sec, h.lat.mono kq, h.cac, fun k hk => ⟨hs k (h.ci k hk).1, (h.ci k hk).2⟩, fun i p q hp hq => ⟨(h.ent i p q hp hq).1, (h.ent i p q hp hq).2.1, (h.ent i p q hp hq).2.2.mono kq⟩, h.ok, h.cnt⟩
theorem DK.lt (h : DK S w b M bd bl vc Dd Dl fd cg cd ps) : DK (fun k => S k ∧ k < w.heap.size) w b M bd bl vc Dd Dl fd cg cd ps :=
  have kq : ∀ k, (Qp S b bd bl vc k ∧ k < w.heap.size) → Qp (fun k => S k ∧ k < w.heap.size) b bd bl vc k := fun k hk => ⟨⟨hk.1.1, hk.2⟩, hk.1.2⟩
  ⟨⟨h.sb, h.blt⟩, ⟨⟨h.sd.1, h.dur.blt⟩, h.sd.2⟩, ⟨⟨h.sl.1, h.lat.blt⟩, h.sl.2⟩, h.box, h.dur.lt.mono kq, h.sec, h.lat.lt.mono kq, h.cac, fun k hk => ⟨⟨(h.ci k hk).1, (h.cac.lt k hk).2⟩, (h.ci k hk).2⟩, fun i p q hp hq => ⟨(h.ent i p q hp hq).1, (h.ent i p q hp hq).2.1, (h.ent i p q hp hq).2.2.lt.mono kq⟩, h.ok, h.cnt⟩
theorem DK.cells (h : DK S w b M bd bl vc Dd Dl fd cg cd ps) : w.cell? ⟨b, 0, none⟩ = some (.int .i64 M.secs.length) ∧ w.cell? ⟨b, 1, none⟩ = some (.int .i64 M.sz) ∧ w.cell? ⟨b, 2, none⟩ = some (.map (some bd)) ∧ w.cell? ⟨b, 3, none⟩ = some vc ∧ w.cell? ⟨b, 4, none⟩ = some (.map (some bl)) ∧ w.cell? ⟨b, 5, none⟩ = some (.bool M.off) ∧ w.cell? ⟨b, 6, none⟩ = some (.bool cg) ∧ w.cell? ⟨b, 7, none⟩ = some (.int .i64 cd) :=
  ⟨cell_blk h.box rfl, cell_blk h.box rfl, cell_blk h.box rfl, cell_blk h.box rfl, cell_blk h.box rfl, cell_blk h.box rfl, cell_blk h.box rfl, cell_blk h.box rfl⟩
theorem DK.free (h : DK S w b M bd bl vc Dd Dl fd cg cd ps) (j : Nat) : w.frozen? ⟨b, j, none⟩ = false := fr_blk h.box j
theorem DK.drew (h : DK S w b M bd bl vc Dd Dl fd cg cd ps) : DK S w.drew b M bd bl vc Dd Dl fd cg cd ps := h.keep ⟨Nat.le_refl _, fun _ _ _ => rfl⟩
/-- A number or a flag in the box has changed. -/
theorem DK.set {M2 : DM} {cg2 : Bool} {cd2 : Int} (h : DK S w b M bd bl vc Dd Dl fd cg cd ps) (j : Nat) (v : Value) (e : [.int .i64 M.secs.length, .int .i64 M.sz, .map (some bd), vc, .map (some bl), .bool M.off, .bool cg, .int .i64 cd].set j v = [.int .i64 M2.secs.length, .int .i64 M2.sz, .map (some bd), vc, .map (some bl), .bool M2.off, .bool cg2, .int .i64 cd2]) (h0 : M2.sz = M.sz) (h1 : M2.secs = M.secs) (h2 : M2.cache = M.cache) (ok : M2.Ok) (cn : (cg2 = true ∧ cd2 = M2.cnt ∧ 0 ≤ M2.cnt) ∨ (cg2 = false ∧ M2.cnt = -1)) : DK S (w.setCell ⟨b, j, none⟩ v) b M2 bd bl vc Dd Dl fd cg2 cd2 ps := by
  have kq : Keeps (Qp S b bd bl vc) w (w.setCell ⟨b, j, none⟩ v) := keeps_set w b j v fun hk => hk.2.1 rfl
  have ko : ∀ k, k ≠ b → (w.setCell ⟨b, j, none⟩ v).heap[k]? = w.heap[k]? := fun k hk => set_blk (Ne.symm hk)
  refine ⟨h.sb, h.sd, h.sl, by rw [← e]; exact Go.Proofs.Yteceljhhhbmemaa.blk_setCell (k := j) h.box, ?_, ?_, ?_, ?_, h.ci, ?_, ok, cn⟩
  · rw [h0, h1]; exact h.dur.keep (ko bd h.sd.2) kq
  · rw [h0, h1]; exact h.sec
  · rw [h0, h1, h2]; exact h.lat.keep (ko bl h.sl.2.1) kq
  · rw [h2]; exact own_same h.cac fun x hx => ko x (h.ci x hx).2.1
  · rw [h0, h2]; exact fun i p q hp hq => ⟨(h.ent i p q hp hq).1, (h.ent i p q hp hq).2.1, (h.ent i p q hp hq).2.2.keep kq⟩
theorem DK.pl (h : DK S w b M bd bl vc Dd Dl fd cg cd ps) : ps.length = M.cache.length := by have := h.cac.1; rw [prs_length] at this; omega
theorem DK.prd (h : DK S w b M bd bl vc Dd Dl fd cg cd ps) : PRd w vc ps :=
  (show OP 65 0 w w vc ps from ⟨Nat.zero_le _, Below.refl _ _, by rw [h.pl]; exact h.cac⟩).prd
end
section
variable (S : Nat → Prop) (w : World) (b : Nat) (M : DM) (bd bl : Nat) (vc : Value) (Dd Dl : DU) (fd : Nat → Option (List Int)) (cg : Bool) (cd : Int) (ps : List PV)
theorem sectors_any (h : DK S w b M bd bl vc Dd Dl fd cg cd ps) : Calls Try.prog 12 #[.pointer (some ⟨b, 0, none⟩)] w fun e w' => e = .returned (.int .i64 M.secs.length) ∧ Below w.heap.size w w' := by
  obtain ⟨c0, c1, c2, c3, c4, c5, c6, c7⟩ := h.cells
  clear h
  go_enter Try.func12, Try.ntmps12
  go_wp2
  go_ret
  exact ⟨rfl, Below.refl _ _⟩
theorem size_any (h : DK S w b M bd bl vc Dd Dl fd cg cd ps) : Calls Try.prog 13 #[.pointer (some ⟨b, 0, none⟩)] w fun e w' => e = .returned (.int .i64 M.sz) ∧ Below w.heap.size w w' := by
  obtain ⟨c0, c1, c2, c3, c4, c5, c6, c7⟩ := h.cells
  clear h
  go_enter Try.func13, Try.ntmps13
  go_wp2
  go_ret
  exact ⟨rfl, Below.refl _ _⟩
theorem down_any (h : DK S w b M bd bl vc Dd Dl fd cg cd ps) : Calls Try.prog 17 #[.pointer (some ⟨b, 0, none⟩)] w fun e w' => e = .returned (.bool M.off) ∧ ∃ m, w' = w.drewN m := by
  obtain ⟨c0, c1, c2, c3, c4, c5, c6, c7⟩ := h.cells
  clear h
  go_enter Try.func17, Try.ntmps17
  go_wp2
  go_ret
  exact ⟨rfl, 0, rfl⟩
theorem cached_any (h : DK S w b M bd bl vc Dd Dl fd cg cd ps) : Calls Try.prog 18 #[.pointer (some ⟨b, 0, none⟩)] w fun e w' => e = .returned (.int .i64 M.cache.length) ∧ ∃ m, w' = w.drewN m := by
  obtain ⟨aC, cc, rfl⟩ := own_shape h.cac
  obtain ⟨c0, c1, c2, c3, c4, c5, c6, c7⟩ := h.cells
  clear h
  go_enter Try.func18, Try.ntmps18
  go_wp2
  go_ret
  exact ⟨rfl, 0, rfl⟩
theorem has_any (s : Int) (h : DK S w b M bd bl vc Dd Dl fd cg cd ps) : Calls Try.prog 32 #[.pointer (some ⟨b, 0, none⟩), .int .i64 s] w fun e w' => e = .returned (.bool (M.fits s)) ∧ w = w' := by
  obtain ⟨c0, c1, c2, c3, c4, c5, c6, c7⟩ := h.cells
  obtain ⟨n, hn⟩ : ∃ n, n = M.secs.length := ⟨_, rfl⟩
  have HF : Hid (M.fits s = decide (0 ≤ s ∧ s < n)) := hid_of (by rw [hn]; rfl)
  rw [HF.out]
  rw [← hn] at c0
  clear h hn HF
  by_cases h0 : s < 0
  · have d0 : decide (s ≥ 0) = false := by simp; omega
    have d1 : decide (0 ≤ s) = false := by simp; omega
    have d2 : decide (0 ≤ s ∧ s < (n : Int)) = false := by simp; omega
    rw [d2]
    clear h0
    go_enter Try.func32, Try.ntmps32
    go_wp2
    go_ret
    exact ⟨rfl, rfl⟩
  · have d0 : decide (s ≥ 0) = true := by simp; omega
    have d1 : decide (0 ≤ s) = true := by simp; omega
    have d2 : decide (0 ≤ s ∧ s < (n : Int)) = decide (s < (n : Int)) := by rw [decide_eq_decide]; omega
    rw [d2]
    clear h0
    go_enter Try.func32, Try.ntmps32
    go_wp2
    go_ret
    exact ⟨rfl, rfl⟩
theorem begin_any (h : DK S w b M bd bl vc Dd Dl fd cg cd ps) : Calls Try.prog 35 #[.pointer (some ⟨b, 0, none⟩)] w fun e w' => e = .returned (.bool (stepF M).1) ∧ (∃ cd2, DK S w' b (stepF M).2 bd bl vc Dd Dl fd cg cd2 ps) ∧ Kept (fun k => k = b) w w' := by
  obtain ⟨c0, c1, c2, c3, c4, c5, c6, c7⟩ := h.cells
  have f5 := h.free 5
  have f7 := h.free 7
  have hok := h.ok.cnt
  have hcn := h.cnt
  obtain ⟨s1, s2, s3⟩ := stepF_same M
  by_cases h1 : M.off = true
  · have hs : stepF M = (false, { M with off := true }) := by rw [stepF, if_pos (Or.inl h1)]
    have HE : Hid ((stepF M).1 = false) := hid_of (by rw [hs])
    cases cg with
    | false =>
      have HK : Hid (DK S w b (stepF M).2 bd bl vc Dd Dl fd false cd ps) := hid_of (by rw [hs]; cases M; simp only at h1; subst h1; exact h)
      rw [h1] at c5
      clear h h1 hcn hs
      go_enter Try.func35, Try.ntmps35
      go_wp2
      go_ret
      exact ⟨by rw [HE.out]; rfl, ⟨_, HK.out⟩, Kept.refl _ _⟩
    | true =>
      by_cases h2 : cd = 0
      · subst h2
        have HK : Hid (DK S (w.setCell ⟨b, 5, none⟩ (.bool true)) b (stepF M).2 bd bl vc Dd Dl fd true 0 ps) := hid_of (h.set 5 _ (by rw [s1, s2, hs]; rfl) s1 s2 s3 h.ok.step (by rw [hs]; exact hcn))
        rw [h1] at c5
        clear h h1 hcn hs
        go_enter Try.func35, Try.ntmps35
        go_wp2
        go_ret
        exact ⟨by rw [HE.out]; rfl, ⟨_, HK.out⟩, Kept.set _ _ _ _⟩
      · have d0 : (cd == 0) = false := by simpa using h2
        have HK : Hid (DK S w b (stepF M).2 bd bl vc Dd Dl fd true cd ps) := hid_of (by rw [hs]; cases M; simp only at h1; subst h1; exact h)
        rw [h1] at c5
        clear h h1 h2 hcn hs
        go_enter Try.func35, Try.ntmps35
        go_wp2
        go_ret
        exact ⟨by rw [HE.out]; rfl, ⟨_, HK.out⟩, Kept.refl _ _⟩
  have h1' : M.off = false := by simpa using h1
  cases cg with
  | false =>
    have hcn1 : M.cnt = -1 := by rcases hcn with h2 | h2; cases h2.1; exact h2.2
    have hs : stepF M = (true, M) := by
      rw [stepF, if_neg (by rw [h1', hcn1]; simp), hcn1]
      cases M
      simp only at hcn1
      subst hcn1
      rfl
    have HE : Hid ((stepF M).1 = true) := hid_of (by rw [hs])
    have HK : Hid (DK S w b (stepF M).2 bd bl vc Dd Dl fd false cd ps) := hid_of (by rw [hs]; exact h)
    rw [h1'] at c5
    clear h h1 hcn hs
    go_enter Try.func35, Try.ntmps35
    go_wp2
    go_ret
    exact ⟨by rw [HE.out]; rfl, ⟨_, HK.out⟩, Kept.refl _ _⟩
  | true =>
    obtain ⟨hc1, hc2⟩ : cd = M.cnt ∧ 0 ≤ M.cnt := by rcases hcn with h2 | h2; exact h2.2; cases h2.1
    by_cases h2 : cd = 0
    · subst h2
      have hs : stepF M = (false, { M with off := true }) := by rw [stepF, if_pos (Or.inr hc1.symm)]
      have HE : Hid ((stepF M).1 = false) := hid_of (by rw [hs])
      have HK : Hid (DK S (w.setCell ⟨b, 5, none⟩ (.bool true)) b (stepF M).2 bd bl vc Dd Dl fd true 0 ps) := hid_of (h.set 5 _ (by rw [s1, s2, hs]; rfl) s1 s2 s3 h.ok.step (by rw [hs]; exact hcn))
      rw [h1'] at c5
      clear h h1 hcn hs hc1 hc2
      go_enter Try.func35, Try.ntmps35
      go_wp2
      go_ret
      exact ⟨by rw [HE.out]; rfl, ⟨_, HK.out⟩, Kept.set _ _ _ _⟩
    · have d0 : (cd == 0) = false := by simpa using h2
      have hs : stepF M = (true, { M with cnt := M.cnt - 1 }) := by rw [stepF, if_neg (by rw [h1']; simp; omega), if_pos (by omega)]
      have HE : Hid ((stepF M).1 = true) := hid_of (by rw [hs])
      have dw : IntKind.i64.wrap (cd - 1) = cd - 1 := IntWalk.i64_in _ (by omega)
      have HK : Hid (DK S (w.setCell ⟨b, 7, none⟩ (.int .i64 (cd - 1))) b (stepF M).2 bd bl vc Dd Dl fd true (cd - 1) ps) := hid_of (h.set 7 _ (by rw [s1, s2, hs]; rfl) s1 s2 s3 h.ok.step (by rw [hs]; exact Or.inl ⟨rfl, by simp only; omega, by simp only; omega⟩))
      rw [h1'] at c5
      clear h h1 h2 hcn hs hc1 hc2 hok
      go_enter Try.func35, Try.ntmps35
      go_wp2
      go_ret
      exact ⟨by rw [HE.out]; rfl, ⟨_, HK.out⟩, Kept.set _ _ _ _⟩
theorem fail_any (n : Int) (hn : R64 n) (h : DK S w b M bd bl vc Dd Dl fd cg cd ps) : Calls Try.prog 24 #[.pointer (some ⟨b, 0, none⟩), .int .i64 n] w fun e w' => e = .returned (.tuple #[]) ∧ DS S w' b (failF M n) ∧ Kept (fun k => k = b) w w' := by
  obtain ⟨c0, c1, c2, c3, c4, c5, c6, c7⟩ := h.cells
  have f6 := h.free 6
  by_cases h1 : M.off = true
  · have HK : Hid (DS S w b (failF M n)) := hid_of (by rw [failF, if_pos h1]; exact ⟨_, _, _, _, _, _, _, _, _, h⟩)
    rw [h1] at c5
    clear h h1
    go_enter Try.func24, Try.ntmps24
    go_wp2
    refine bodyPost_ret (results_none rfl _ _ _) rfl ?_
    exact ⟨rfl, HK.out, Kept.refl _ _⟩
  · have h1' : M.off = false := by simpa using h1
    obtain ⟨m, hm⟩ : ∃ m, m = max n 0 := ⟨_, rfl⟩
    have f7 : (w.setCell ⟨b, 6, none⟩ (.bool true)).frozen? ⟨b, 7, none⟩ = false := by
      have := fr_blk (Go.Proofs.Yteceljhhhbmemaa.blk_setCell (k := 6) (u := .bool true) h.box) 7
      exact this
    have HK : Hid (DS S ((w.setCell ⟨b, 6, none⟩ (.bool true)).setCell ⟨b, 7, none⟩ (.int .i64 m)) b (failF M n)) := hid_of (by
      have e : failF M n = { M with cnt := m } := by rw [failF, if_neg h1, hm]
      rw [e]
      have a1 := h.set (M2 := { M with cnt := 0 }) (cg2 := false) (cd2 := m) 6 (.bool true)
      refine ⟨bd, bl, vc, Dd, Dl, fd, true, m, ps, ?_⟩
      have k1 : Keeps (fun k => S k ∧ k ≠ b) w ((w.setCell ⟨b, 6, none⟩ (.bool true)).setCell ⟨b, 7, none⟩ (.int .i64 m)) := (keeps_set w b 6 _ fun hk => hk.2 rfl).trans (keeps_set _ b 7 _ fun hk => hk.2 rfl)
      have kq : Keeps (Qp S b bd bl vc) w ((w.setCell ⟨b, 6, none⟩ (.bool true)).setCell ⟨b, 7, none⟩ (.int .i64 m)) := ⟨k1.1, fun k hk => k1.2 k ⟨hk.1, hk.2.1⟩⟩
      refine ⟨h.sb, h.sd, h.sl, Go.Proofs.Yteceljhhhbmemaa.blk_setCell (k := 7) (Go.Proofs.Yteceljhhhbmemaa.blk_setCell (k := 6) h.box), h.dur.keep (k1.2 bd h.sd h.dur.blt) kq, h.sec, h.lat.keep (k1.2 bl ⟨h.sl.1, h.sl.2.1⟩ h.lat.blt) kq, own_same h.cac fun x hx => k1.2 x ⟨(h.ci x hx).1, (h.ci x hx).2.1⟩ (h.cac.lt x hx).2, h.ci, fun i p q hp hq => ⟨(h.ent i p q hp hq).1, (h.ent i p q hp hq).2.1, (h.ent i p q hp hq).2.2.keep kq⟩, ?_, Or.inl ⟨rfl, rfl, by show 0 ≤ m; omega⟩⟩
      rw [← e]
      exact h.ok.fail n hn.2)
    rw [h1'] at c5
    by_cases h2 : n < 0
    · have d0 : decide (n < 0) = true := by simpa using h2
      have hm0 : m = 0 := by omega
      subst hm0
      clear h h1 h1' hm
      go_enter Try.func24, Try.ntmps24
      go_wp2
      go_end0
      exact ⟨rfl, HK.out, (Kept.set _ _ _ _).trans (Kept.set _ _ _ _)⟩
    · have d0 : decide (n < 0) = false := by simpa using h2
      have hm0 : m = n := by omega
      subst hm0
      clear h h1 h1' hm
      go_enter Try.func24, Try.ntmps24
      go_wp2
      go_end0
      exact ⟨rfl, HK.out, (Kept.set _ _ _ _).trans (Kept.set _ _ _ _)⟩
end
end Dg
end Go.Proofs.Yteceljhhhbmemaa

/- The program's disk: a new sector with a copy, Read. Bounds on sizes alone. -/
namespace Go.Proofs.Yteceljhhhbmemaa
open Go.RowKit Go.Maps
set_option maxRecDepth 100000
set_option maxHeartbeats 3200000
theorem sizeB : (Try.prog.info? 5).map (·.size) = some 1 := by kernel_rfl
theorem zero_sl (w : World) : (zeroValue 32).run Try.prog w = .ok (.slice none 0 0) w := Try.zeroValue32 w
theorem src_cells {w : World} {bo : Option Addr} {bn bc : Nat} {l : List Int} (h : Rd w (.slice bo bn bc) (by8 l)) {sz : Nat} (hl : l.length ≤ sz) {g : Nat} : 0 < (by8 l).length → some (⟨g, 0, none⟩ : Addr) = some ⟨g, 0, none⟩ ∧ ∃ ad, bo = some ad ∧ ∀ (j : Nat) (v : Value), (by8 l)[j]? = some v → w.cell? (ad.add j) = some v := fun h0 => by
  obtain ⟨_, _, e, h2, h3, h4⟩ := h
  simp only [Value.slice.injEq] at e
  obtain ⟨rfl, _, rfl⟩ := e
  obtain ⟨gs, o, q1, q2, q3⟩ := h4 h0
  exact ⟨rfl, _, q1, fun j v hv => by rw [Addr.add_mid]; exact q3 j v hv⟩
theorem splice_pad (sz : Nat) (l : List Int) (hl : l.length ≤ sz) : splice (List.replicate sz (Value.int .u8 0)) 0 (by8 l) = by8 (l ++ List.replicate (sz - l.length) 0) := by
  simp [splice, by8]
theorem rs_sl {sz : Nat} {v : Value} {d : DU} {ps : List MemPlace} (h : RS sz v = some (d, ps)) : ∃ bo bn bc, v = .slice bo bn bc := by
  rcases rs_shape h with e | ⟨g, e⟩
  · exact ⟨_, _, _, e⟩
  · exact ⟨_, _, _, e⟩
/-- A look-up without 'ok'. -/
theorem wpList_lookup_own {H : Type} {P : Program} (w : World) {ops : Array Oper} {rest : List Oper} {o : Oper} {a : Act} {Q : Exit → Act → World → Prop} (hg : o.guard = none) (m x : Operand) (t : TypeId) (hop : o.op = Op.lookup t m x false)
    (k e : TypeId) (K : Keyed P k) (ht : P.underlying t = some (.map k e)) (R : Value → Option (DataW H × List MemPlace)) {z : Value} (hz : (zeroValue e).run P w = .ok z w) (zd : DataW H) (zp : List MemPlace) (hzd : R z = some (zd, zp)) (b n : Nat) (D : DataW H)
    (hm : a.eval m = .map (some b)) (hown : w.ownsMap P k R b n D) (key : Value) (kl : Lit) (hx : a.eval x = key) (hkey : keyOf P k key = some kl)
    (hK : ∀ v ps, R v = some (D.atKey kl zd, ps) → wpList P ops Q rest (a.put o.dst v) w) :
    wpList P ops Q (o :: rest) a w := by
  refine wpList_plain hg fun K' hK' => ?_
  obtain ⟨v, ps, hrun, hv⟩ := hown.lookup K ht hz hzd hkey
  unfold Oper.wp
  simp [execOp, hop, hm, hx, hrun, Result.andThen]
  exact hK' _ _ (hK v ps hv)
namespace Dg
section
variable (S : Nat → Prop) (w : World) (b : Nat) (M : DM) (bd bl : Nat) (vc : Value) (Dd Dl : DU) (fd : Nat → Option (List Int)) (cg : Bool) (cd : Int) (ps : List PV)
/-- A new sector with a copy of l. -/
theorem block_any (sz : Nat) (hz : sz ≤ 4096) (bo : Option Addr) (bn bc : Nat) (l : List Int) (hl : l.length ≤ sz) (hr : Rd w (.slice bo bn bc) (by8 l)) (c1 : w.cell? ⟨b, 1, none⟩ = some (.int .i64 sz)) :
    Calls Try.prog 33 #[.pointer (some ⟨b, 0, none⟩), .slice bo bn bc] w fun e w' => e = .returned (.slice (some ⟨w.heap.size, 0, none⟩) sz sz) ∧ w'.heap[w.heap.size]? = some (.cells (by8 (l ++ List.replicate (sz - l.length) 0)).toArray 5 (0, 0)) ∧ Below w.heap.size w w' := by
  have HN := hid_of ((rd_cut hr).1)
  have HR := hid_of hr
  have HW := hid_of (heap_alloc_new w (.cells (List.replicate sz (.int .u8 0)).toArray 5))
  have MK : ∀ w : World, (Instr.makeSlice 32 (.int .i64 sz) (.int .i64 sz)).run Try.prog w = .ok (.slice (some ⟨w.heap.size, 0, none⟩) sz sz) (w.alloc (.cells (List.replicate sz (.int .u8 0)).toArray 5)) := fun w => by
    have h := run_make_row' (P := Try.prog) 32 5 (.int .u8 0) 1 u8E.und u8E.info rfl .i64 .i64 sz (by omega) (by omega) w
    rw [show madeCells #[Value.int .u8 0] sz = (List.replicate sz (.int .u8 0)).toArray by rw [← Array.toList_inj]; simp [toList_madeCells_one]] at h
    exact h
  have HC := hid_of (src_cells (hr.at (bel_alloc w (.cells (List.replicate sz (.int .u8 0)).toArray 5))) hl (g := w.heap.size))
  have HB := hid_of (bel_alloc w (.cells (List.replicate sz (.int .u8 0)).toArray 5))
  have HS := hid_of (splice_pad sz l hl)
  clear hr
  go_enter Try.func33, Try.ntmps33
  go_wp2_with (refine wpList_copy_splice rfl _ _ 32 32 rfl 5 Try.underlying32 sizeB (some ⟨w.heap.size, 0, none⟩) bo sz sz bn bc rfl rfl w.heap.size 0 (List.replicate sz (Value.int .u8 0)) 5 HW.out (by8 l) (by rw [by8_length]; have := HN.out; rw [by8_length] at this; rw [this]; exact (Nat.min_eq_left hl).symm) HC.out (by rw [by8_length]; simp; omega) (by8_cells l) w.heap.size w HB.out (Nat.le_refl _) ?_; intro w3 h6 h7; rw [HS.out] at h6; have C3 := h6; have B3 := hid_of h7; clear h6 h7)
  go_ret
  exact ⟨rfl, C3.out, B3.out⟩
/-- What Read gives, in a new row. -/
theorem read_any (s : Int) (hs : R64 s) (h : DK S w b M bd bl vc Dd Dl fd cg cd ps) : Calls Try.prog 19 #[.pointer (some ⟨b, 0, none⟩), .int .i64 s] w fun e w' => (∃ n, e = .returned (.tuple #[.slice none 0 0, .int .i64 n]) ∧ readF M s = ([], n) ∧ Below w.heap.size w w') ∨ (e = .returned (.tuple #[.slice (some ⟨w.heap.size, 0, none⟩) M.sz M.sz, .int .i64 0]) ∧ (readF M s).2 = 0 ∧ (readF M s).1.length = M.sz ∧ w'.heap[w.heap.size]? = some (.cells (by8 (readF M s).1).toArray 5 (0, 0)) ∧ Below w.heap.size w w') := by
  have CH := hid_of (has_any S w b M bd bl vc Dd Dl fd cg cd ps s h)
  obtain ⟨c0, c1, c2, c3, c4, c5, c6, c7⟩ := h.cells
  by_cases hf : M.fits s = false
  · have HE : Hid (readF M s = ([], 1)) := hid_of (by rw [readF, if_pos hf])
    rw [hf] at CH
    clear h hf
    go_enter Try.func19, Try.ntmps19
    go_wp2_with (go_at_call 32; ((with_reducible refine (CH.out).mono ?_); (rintro e w1 ⟨rfl, rfl⟩)))
    go_ret2
    exact Or.inl ⟨1, rfl, HE.out, Below.refl _ _⟩
  obtain ⟨k, rfl, hk, hkn⟩ := fits_at (by simpa using hf)
  rw [show M.fits k = true by simpa using hf] at CH
  by_cases ho : M.off = true
  · have HE : Hid (readF M k = ([], 8)) := hid_of (by rw [readF, if_neg hf, if_pos ho])
    rw [ho] at c5
    clear h hf ho
    go_enter Try.func19, Try.ntmps19
    go_wp2_with (go_at_call 32; ((with_reducible refine (CH.out).mono ?_); (rintro e w1 ⟨rfl, rfl⟩)))
    go_ret2
    exact Or.inl ⟨8, rfl, HE.out, Below.refl _ _⟩
  have ho' : M.off = false := by simpa using ho
  have HE : Hid (readF M k = (M.content k, 0)) := hid_of (by rw [readF, if_neg hf, if_neg ho, hkn])
  have HZ := hid_of h.ok.sz
  have HL := hid_of (h.ok.content_len hk)
  have HM := hid_of h
  have HK := hid_of hk
  have hk9 : k ≤ 9223372036854775807 := by have := h.ok.secs; omega
  have hn9 : M.secs.length ≤ 65536 := h.ok.secs
  have OL := hid_of h.lat.own
  have OD := hid_of h.dur.own
  have CB := hid_of (fun bo bn bc l (hl : l.length ≤ M.sz) hr => block_any w b M.sz h.ok.sz bo bn bc l hl hr c1)
  have HH : Hid (Maps.has Dl (kL k) = (lookF M.cache k M.cache.length).isSome) := hid_of (h.lat.has k hk)
  have HC : Hid (∀ v ps', RS M.sz v = some (Dl.atKey (kL k) .nil, ps') → ∀ l, lookF M.cache k M.cache.length = some l → ∃ bo bn bc, v = .slice bo bn bc ∧ Rd w v (by8 l) ∧ M.content k = l) := hid_of (fun v ps' hv l hl => by
    obtain ⟨bo, bn, bc, e⟩ := rs_sl hv
    exact ⟨bo, bn, bc, e, (h.lat.at' k l v ps' hk hl hv).1, by rw [DM.content, hl]; rfl⟩)
  have HD : Hid (∀ v ps', RS M.sz v = some (Dd.atKey (kL k) .nil, ps') → lookF M.cache k M.cache.length = none → ∃ bo bn bc l, v = .slice bo bn bc ∧ l.length ≤ M.sz ∧ Rd w v (by8 l) ∧ M.content k = l ++ List.replicate (M.sz - l.length) 0) := hid_of (fun v ps' hv hl => by
    have hs2 := h.sec k hk
    have hct : M.content k = (fd k).getD (List.replicate M.sz 0) := by rw [DM.content, hl]; show M.secs.getD k [] = _; rw [List.getD_eq_getElem?_getD, hs2]; rfl
    cases hfd : fd k with
    | none =>
      have h0 : Maps.has Dd (kL k) = false := by rw [h.dur.has k hk, hfd]; rfl
      rw [atKey_of_not_has h0] at hv
      exact ⟨none, 0, 0, [], rs_nil_inv hv, Nat.zero_le _, by rw [rs_nil_inv hv]; exact ⟨none, 0, rfl, Nat.le_refl _, by omega, fun h => by simp [by8] at h⟩, by rw [hct, hfd]; rfl⟩
    | some l =>
      obtain ⟨bo, bn, bc, e⟩ := rs_sl hv
      have hll : l.length = M.sz := by have h9 := h.ok.content_len hk; rw [hct, hfd] at h9; exact h9
      exact ⟨bo, bn, bc, l, e, by omega, (h.dur.at' k l v ps' hk hfd hv).1, by rw [hct, hfd, hll, Nat.sub_self]; exact (List.append_nil l).symm⟩)
  rw [ho'] at c5
  clear h hf ho ho' hkn hk
  cases hlk : lookF M.cache k M.cache.length with
  | some l =>
    rw [hlk] at HH HC
    clear HD
    go_enter Try.func19, Try.ntmps19
    go_wp2_with (first
      | (go_at_call 32; ((with_reducible refine (CH.out).mono ?_); (rintro e w1 ⟨rfl, rfl⟩)))
      | (at_lookup; refine wpList_lookup_own_ok _ rfl _ _ 56 rfl 3 32 lawK Try.underlying56 (RS M.sz) (zero_sl _) .nil [] (rs_nil _) bl _ Dl rfl OL.out _ _ rfl (keyOf_kL k hk9) ?_; intro v ps' hv; rw [HH.out]; obtain ⟨bo, bn, bc, rfl, q1, q2⟩ := HC.out v ps' hv l rfl; have R1 := hid_of q1; have E1 := hid_of q2; clear hv q1 q2)
      | (go_at_call 33; ((with_reducible refine (CB.out bo bn bc l (by have := HL.out; rw [E1.out] at this; omega) R1.out).mono ?_); (rintro e w2 ⟨rfl, q1, q2⟩)); have R2 := hid_of q1; have B2 := hid_of q2; clear q1 q2))
    go_ret2
    exact Or.inr ⟨rfl, by rw [HE.out], by rw [HE.out]; exact HL.out, by
      rw [HE.out]
      have h9 := R2.out
      have h8 := HL.out
      rw [E1.out] at h8
      rw [h8, Nat.sub_self, List.replicate_zero, List.append_nil] at h9
      rw [E1.out]
      exact h9, B2.out⟩
  | none =>
    rw [hlk] at HH
    replace HD := hid_of (fun v ps' hv => HD.out v ps' hv hlk)
    clear HC
    go_enter Try.func19, Try.ntmps19
    go_wp2_with (first
      | (go_at_call 32; ((with_reducible refine (CH.out).mono ?_); (rintro e w1 ⟨rfl, rfl⟩)))
      | (at_lookup; refine wpList_lookup_own_ok _ rfl _ _ 56 rfl 3 32 lawK Try.underlying56 (RS M.sz) (zero_sl _) .nil [] (rs_nil _) bl _ Dl rfl OL.out _ _ rfl (keyOf_kL k hk9) ?_; intro v ps' hv; rw [HH.out]; clear hv)
      | (at_lookup; refine wpList_lookup_own _ rfl _ _ 56 rfl 3 32 lawK Try.underlying56 (RS M.sz) (zero_sl _) .nil [] (rs_nil _) bd _ Dd rfl OD.out _ _ rfl (keyOf_kL k hk9) ?_; intro v2 ps2 hv; obtain ⟨bo, bn, bc, l, rfl, q0, q1, q2⟩ := HD.out v2 ps2 hv; have R0 := hid_of q0; have R1 := hid_of q1; have E1 := hid_of q2; clear hv q0 q1 q2)
      | (go_at_call 33; ((with_reducible refine (CB.out bo bn bc l R0.out R1.out).mono ?_); (rintro e w2 ⟨rfl, q1, q2⟩)); have R2 := hid_of q1; have B2 := hid_of q2; clear q1 q2))
    go_ret2
    exact Or.inr ⟨rfl, by rw [HE.out], by rw [HE.out]; exact HL.out, by
      rw [HE.out, E1.out]
      exact R2.out, B2.out⟩
end
end Dg
end Go.Proofs.Yteceljhhhbmemaa

/- The program's disk: Write. Bounds on sizes alone. -/
namespace Go.Proofs.Yteceljhhhbmemaa
open Go.RowKit Go.Maps
set_option maxRecDepth 100000
set_option maxHeartbeats 3200000
theorem dwL2 : Elem2 Try.prog 57 65 (.agg #[.int .i64 0, .slice none 0 0]) 32 := ⟨Try.underlying57, by kernel_rfl, rfl⟩
theorem src_dw (W : World) (u v : Value) (hu : u.oneCell' = true) (hv : v.oneCell' = true) : Src Try.prog 2 57 (.slice (some ⟨W.heap.size, 0, none⟩) 1 1) 1 (prs [(u, v)]) (W.alloc (.cells #[u, v] 65)) :=
  prd_new.src dwL2 (by intro x hx; simp [prs] at hx; rcases hx with rfl | rfl <;> assumption)
theorem lookF_app (c : List (Nat × List Int)) (p : Nat × List Int) (s : Nat) : ∀ k, k ≤ c.length → lookF (c ++ [p]) s k = lookF c s k
  | 0, _ => rfl
  | k + 1, h => by
    rw [lookF, lookF, List.getElem?_append_left (by omega), lookF_app c p s k (by omega)]
theorem lookF_snoc (c : List (Nat × List Int)) (p : Nat × List Int) (s : Nat) : lookF (c ++ [p]) s (c ++ [p]).length = if s = p.1 then some p.2 else lookF c s c.length := by
  rw [List.length_append, List.length_singleton, lookF, List.getElem?_append_right (Nat.le_refl _), Nat.sub_self]
  simp only [List.getElem?_cons_zero]
  by_cases e : s = p.1
  · rw [if_pos e.symm, if_pos e]
  · rw [if_neg (Ne.symm e), if_neg e]
    exact lookF_app c p s _ (Nat.le_refl _)
namespace Dg
section
variable {S T : Nat → Prop} {w w' : World} {b : Nat} {M : DM} {bd bl : Nat} {vc : Value} {Dd Dl : DU} {fd : Nat → Option (List Int)} {cg : Bool} {cd : Int} {ps : List PV}
/-- A write more, in the cache and in the map of the last ones. -/
theorem DK.push (h : DK S w b M bd bl vc Dd Dl fd cg cd ps) {s g : Nat} {l : List Int} (hs : s < M.secs.length) (hl : l.length = M.sz) (hv : CR (Qp S b bd bl vc) w (.slice (some ⟨g, 0, none⟩) M.sz M.sz) l) {ao : Option Addr} {cap : Nat} {w4 : World} (ga : GA 0 65 2 w w4 vc (.slice ao (M.cache.length + 1) cap) (M.cache.length + 1) (prs ps ++ prs [(.int .i64 s, .slice (some ⟨g, 0, none⟩) M.sz M.sz)]))
    {w6 : World} {n : Nat} (ho : w6.ownsMap Try.prog 3 (RS M.sz) bl n (Dl.put (kL s) (.lit (.int .i64 g)))) (hg : (w4.setCell ⟨b, 3, none⟩ (.slice ao (M.cache.length + 1) cap)).grownBy w6 (some bl)) :
    DK (fun k => S k ∨ k = w.heap.size) w6 b { M with cache := M.cache ++ [(s, l)] } bd bl (.slice ao (M.cache.length + 1) cap) Dd (Dl.put (kL s) (.lit (.int .i64 g))) fd cg cd (ps ++ [(.int .i64 s, .slice (some ⟨g, 0, none⟩) M.sz M.sz)]) := by
  have hfr : ∀ k, (Value.slice ao (M.cache.length + 1) cap).ownBlock = some k → vc.ownBlock = some k ∨ k = w.heap.size := fun k hk => by
    rcases ga.fr with e | e
    · exact Or.inl (by rw [← e]; exact hk)
    · rw [e] at hk; exact Or.inr (Option.some.inj hk).symm
  have hlt := h.blt
  have hbd := h.dur.blt
  have hbl := h.lat.blt
  have s4 : w.heap.size ≤ w4.heap.size := ga.gr.size
  have kg : ∀ k, k < w.heap.size → vc.ownBlock ≠ some k → w4.heap[k]? = w.heap[k]? := fun k hk hn => ga.gr.block k hk (fun e => hn e.symm)
  have ko : ∀ k, k ≠ b → (w4.setCell ⟨b, 3, none⟩ (.slice ao (M.cache.length + 1) cap)).heap[k]? = w4.heap[k]? := fun k hk => set_blk (Ne.symm hk)
  have k6 : ∀ k, k < w4.heap.size → k ≠ bl → w6.heap[k]? = (w4.setCell ⟨b, 3, none⟩ (.slice ao (M.cache.length + 1) cap)).heap[k]? := fun k hk hn => hg.block k (by simpa using hk) (fun e => hn (by cases e; rfl))
  have s6 : w4.heap.size ≤ w6.heap.size := by have := hg.size; simpa using this
  have q5 : ∀ k, Qp S b bd bl vc k ∧ k < w.heap.size → Qp (fun k => S k ∨ k = w.heap.size) b bd bl (.slice ao (M.cache.length + 1) cap) k := fun k hk => ⟨Or.inl hk.1.1, hk.1.2.1, hk.1.2.2.1, hk.1.2.2.2.1, fun e => by
    rcases hfr k e with h1 | h1
    · exact hk.1.2.2.2.2 h1
    · omega⟩
  have kq5 : Keeps (fun k => Qp S b bd bl vc k ∧ k < w.heap.size) w (w4.setCell ⟨b, 3, none⟩ (.slice ao (M.cache.length + 1) cap)) := ⟨by simpa using s4, fun k hk hl => (ko k hk.1.2.1).trans (kg k hl hk.1.2.2.2.2)⟩
  have kq6 : Keeps (fun k => Qp S b bd bl vc k ∧ k < w.heap.size) w w6 := ⟨by omega, fun k hk hl => (k6 k (by omega) hk.1.2.2.2.1).trans (kq5.2 k hk hl)⟩
  have kv : ∀ {v' : Value} {l' : List Int}, CR (Qp S b bd bl vc) w v' l' → CR (Qp (fun k => S k ∨ k = w.heap.size) b bd bl (.slice ao (M.cache.length + 1) cap)) w6 v' l' := fun h' => (CR.keep h'.lt kq6).mono q5
  have nv : ∀ k, vc.ownBlock = some k → k ≠ bd ∧ k ≠ bl ∧ k ≠ b := fun k hk => ⟨(h.ci k hk).2.2.1, (h.ci k hk).2.2.2, (h.ci k hk).2.1⟩
  have hok : DM.Ok { M with cache := M.cache ++ [(s, l)] } := ⟨h.ok.sz, h.ok.secs, h.ok.con, fun p hp => by
    rcases List.mem_append.1 hp with h1 | h1
    · exact h.ok.ent p h1
    · rw [List.mem_singleton.1 h1]; exact ⟨hs, hl⟩, h.ok.cnt⟩
  have e5 : (w4.setCell ⟨b, 3, none⟩ (.slice ao (M.cache.length + 1) cap)).heap[bl]? = w.heap[bl]? := (ko bl h.sl.2.1).trans (kg bl hbl fun e => (nv bl e).2.1 rfl)
  have eb : w4.heap[b]? = w.heap[b]? := kg b hlt fun e => (nv b e).2.2 rfl
  have ed : w6.heap[bd]? = w.heap[bd]? := (k6 bd (by omega) (Ne.symm h.sl.2.2)).trans ((ko bd h.sd.2).trans (kg bd hbd fun e => (nv bd e).1 rfl))
  refine ⟨Or.inl h.sb, ⟨Or.inl h.sd.1, h.sd.2⟩, ⟨Or.inl h.sl.1, h.sl.2⟩, ?_, (h.dur.lt.keep ed kq6).mono q5, h.sec, ?_, ?_, ?_, ?_, hok, h.cnt⟩
  · exact (k6 b (by omega) (Ne.symm h.sl.2.1)).trans (Go.Proofs.Yteceljhhhbmemaa.blk_setCell (k := 3) (eb.trans h.box))
  · have m5 := (h.lat.lt.keep e5 kq5).mono q5
    exact (m5.put hs ((CR.keep hv.lt kq5).mono q5) ho hg (fun hq => hq.2.2.2.1 rfl)).congr fun x hx => (lookF_snoc M.cache (s, l) x).symm
  · show World.ownsRow _ 0 65 2 _ (M.cache ++ [(s, l)]).length _
    rw [prs_append, List.length_append]
    refine own_same ga.own fun k hk => ?_
    have hk4 := (ga.own.lt k hk).2
    have hkb : k ≠ b ∧ k ≠ bl := by
      rcases hfr k hk with h1 | h1
      · exact ⟨(nv k h1).2.2, (nv k h1).2.1⟩
      · omega
    exact (k6 k hk4 hkb.2).trans (ko k hkb.1)
  · intro k hk
    rcases hfr k hk with h1 | h1
    · exact ⟨Or.inl (h.ci k h1).1, (h.ci k h1).2⟩
    · exact ⟨Or.inr h1, by omega, by omega, by omega⟩
  · intro i p q hp hq
    have hpl := h.pl
    by_cases e : i < ps.length
    · rw [List.getElem?_append_left e] at hp
      rw [List.getElem?_append_left (by omega)] at hq
      exact ⟨(h.ent i p q hp hq).1, (h.ent i p q hp hq).2.1, kv (h.ent i p q hp hq).2.2⟩
    · rw [List.getElem?_append_right (by omega)] at hp
      rw [List.getElem?_append_right (by omega)] at hq
      have hi : i = ps.length := by have := (List.getElem?_eq_some_iff.1 hp).1; simp at this; omega
      subst hi
      rw [hpl] at hq
      simp at hp hq
      subst hp hq
      exact ⟨rfl, ⟨g, rfl⟩, kv hv⟩
theorem DK.push' {m : Nat} (hm : m = M.cache.length) (h : DK S w b M bd bl vc Dd Dl fd cg cd ps) {s g : Nat} {l : List Int} (hs : s < M.secs.length) (hl : l.length = M.sz) (hv : CR (Qp S b bd bl vc) w (.slice (some ⟨g, 0, none⟩) M.sz M.sz) l) {ao : Option Addr} {cap : Nat} {w4 : World} (ga : GA 0 65 2 w w4 vc (.slice ao (m + 1) cap) (m + 1) (prs ps ++ prs [(.int .i64 s, .slice (some ⟨g, 0, none⟩) M.sz M.sz)]))
    {w6 : World} {n : Nat} (ho : w6.ownsMap Try.prog 3 (RS M.sz) bl n (Dl.put (kL s) (.lit (.int .i64 g)))) (hg : (w4.setCell ⟨b, 3, none⟩ (.slice ao (m + 1) cap)).grownBy w6 (some bl)) :
    DK (fun k => S k ∨ k = w.heap.size) w6 b { M with cache := M.cache ++ [(s, l)] } bd bl (.slice ao (m + 1) cap) Dd (Dl.put (kL s) (.lit (.int .i64 g))) fd cg cd (ps ++ [(.int .i64 s, .slice (some ⟨g, 0, none⟩) M.sz M.sz)]) := by
  subst hm
  exact h.push hs hl hv ga ho hg
theorem DK.gaB (h : DK S w b M bd bl vc Dd Dl fd cg cd ps) {w4 : World} (gr : w.grownBy w4 vc.ownBlock) : w4.heap[b]? = some (.cells [.int .i64 M.secs.length, .int .i64 M.sz, .map (some bd), vc, .map (some bl), .bool M.off, .bool cg, .int .i64 cd].toArray 59 (0, 0)) :=
  (gr.block b h.blt (fun e => (h.ci b e.symm).2.1 rfl)).trans h.box
theorem DK.ga3 (h : DK S w b M bd bl vc Dd Dl fd cg cd ps) {w4 : World} (gr : w.grownBy w4 vc.ownBlock) : w4.frozen? ⟨b, 3, none⟩ = false ∧ w4.cell? ⟨b, 3, none⟩ = some vc ∧ w4.cell? ⟨b, 4, none⟩ = some (.map (some bl)) :=
  ⟨fr_blk (h.gaB gr) 3, cell_blk (h.gaB gr) rfl, cell_blk (h.gaB gr) rfl⟩
theorem DK.gaL (h : DK S w b M bd bl vc Dd Dl fd cg cd ps) {w4 : World} (gr : w.grownBy w4 vc.ownBlock) (v : Value) : (w4.setCell ⟨b, 3, none⟩ v).ownsMap Try.prog 3 (RS M.sz) bl (Maps.size Dl) Dl :=
  owns_keep h.lat.own ((set_blk (Ne.symm h.sl.2.1)).trans (gr.block bl h.lat.blt (fun e => (h.ci bl e.symm).2.2.2 rfl)))
/-- A new row lies apart from the disk. -/
theorem DK.fresh {w1 w2 : World} (h : DK S w1 b M bd bl vc Dd Dl fd cg cd ps) {l : List Int} (hb : Below w1.heap.size w1 w2) (hr : w2.heap[w1.heap.size]? = some (.cells (by8 l).toArray 5 (0, 0))) (hl : l.length = M.sz) :
    DK (Nw S w1 w2) w2 b M bd bl vc Dd Dl fd cg cd ps ∧ CR (Qp (Nw S w1 w2) b bd bl vc) w2 (.slice (some ⟨w1.heap.size, 0, none⟩) M.sz M.sz) l := by
  refine ⟨(h.keep (keeps_belw hb)).mono fun k hk => Or.inl hk, ?_, fun _ a n c e => ?_⟩
  · refine ⟨some ⟨w1.heap.size, 0, none⟩, M.sz, by rw [by8_length, hl], by rw [by8_length, hl]; exact Nat.le_refl _, by have := h.ok.sz; omega, fun _ => ⟨_, 0, rfl, lt_of_block hr, fun i t ht => ?_⟩⟩
    rw [Nat.zero_add]
    exact cell_blk hr ht
  · cases e
    have h1 := h.blt
    have h2 := h.dur.blt
    have h3 := h.lat.blt
    exact ⟨Or.inr ⟨Nat.le_refl _, lt_of_block hr⟩, by show w1.heap.size ≠ b; omega, by show w1.heap.size ≠ bd; omega, by show w1.heap.size ≠ bl; omega, fun e2 => absurd (h.cac.lt _ e2).2 (Nat.lt_irrefl _)⟩
end
section
variable (S : Nat → Prop) (w : World) (b : Nat) (M : DM) (bd bl : Nat) (vc : Value) (Dd Dl : DU) (fd : Nat → Option (List Int)) (cg : Bool) (cd : Int) (ps : List PV)
theorem write_any (U : Nat → Prop) (s : Int) (hs : R64 s) (bo : Option Addr) (bn bc : Nat) (l : List Int) (hc : M.cache.length < 1000000) (hin : CR U w (.slice bo bn bc) l) (hU : ∀ k, U k → ¬ S k) (h : DK S w b M bd bl vc Dd Dl fd cg cd ps) :
    Calls Try.prog 22 #[.pointer (some ⟨b, 0, none⟩), .int .i64 s, .slice bo bn bc] w fun e w' => e = .returned (.int .i64 (writeF M s l).1) ∧ DS (Nw S w w') w' b (writeF M s l).2 ∧ Kept S w w' := by
  have hkeep : DS (Nw S w w) w b M := ⟨_, _, _, _, _, _, _, _, _, h.mono fun k hk => Or.inl hk⟩
  have CH := hid_of (has_any S w b M bd bl vc Dd Dl fd cg cd ps s h)
  obtain ⟨c0, c1, c2, c3, c4, c5, c6, c7⟩ := h.cells
  have hbl : bn = l.length := by have := (rd_cut hin.1).1; rwa [by8_length] at this
  subst hbl
  have hz := h.ok.sz
  obtain ⟨z, hz2⟩ : ∃ z, z = M.sz := ⟨_, rfl⟩
  rw [← hz2] at c1
  by_cases hf : M.fits s = false
  · have HE : Hid (writeF M s l = (1, M)) := hid_of (by rw [writeF, if_pos (Or.inl hf)])
    rw [HE.out]
    rw [hf] at CH
    have HK := hid_of hkeep
    clear h hf hkeep hin hz hz2
    go_enter Try.func22, Try.ntmps22
    go_wp2_with (go_at_call 32; ((with_reducible refine (CH.out).mono ?_); (rintro e w1 ⟨rfl, rfl⟩)))
    go_ret
    exact ⟨rfl, HK.out, Kept.refl _ _⟩
  obtain ⟨k, rfl, hk, hkn⟩ := fits_at (by simpa using hf)
  rw [show M.fits k = true by simpa using hf] at CH
  by_cases hl : l.length = M.sz
  · have e0 : ((l.length : Int) != (z : Int)) = false := by simp; omega
    have e1 : ((l.length : Int) == (z : Int)) = true := by simp; omega
    have CS := hid_of (begin_any S w b M bd bl vc Dd Dl fd cg cd ps h)
    have HKB : Hid (∀ w1, Kept (fun k => k = b) w w1 → Kept S w w1) := hid_of (fun w1 q => q.mono fun k e => by rw [e]; exact h.sb)
    by_cases hst : (stepF M).1 = false
    · have HE : Hid (writeF M k l = (8, (stepF M).2)) := hid_of (by rw [writeF, if_neg (by simp [hf, hl]), if_pos hst])
      rw [HE.out]
      rw [hst] at CS
      clear h hf hk hst hl hkeep hin hz hz2
      go_enter Try.func22, Try.ntmps22
      go_wp2_with (first
        | (go_at_call 32; ((with_reducible refine (CH.out).mono ?_); (rintro e w1 ⟨rfl, rfl⟩)))
        | (go_at_call 35; ((with_reducible refine (CS.out).mono ?_); (rintro e w1 ⟨rfl, ⟨cd2, q1⟩, q2⟩)); have D1 := hid_of q1; have K1 := hid_of q2; clear q1 q2))
      go_ret
      exact ⟨rfl, ⟨_, _, _, _, _, _, _, _, _, D1.out.mono fun k hk => Or.inl hk⟩, HKB.out _ K1.out⟩
    · have hst' : (stepF M).1 = true := by simpa using hst
      obtain ⟨aC, cc, rfl⟩ := own_shape h.cac
      obtain ⟨M1, hM1⟩ : ∃ M1, M1 = (stepF M).2 := ⟨_, rfl⟩
      obtain ⟨s1, s2, s3⟩ := stepF_same M
      rw [← hM1] at s1 s2 s3
      have HE : Hid (writeF M k l = (0, { M1 with cache := M1.cache ++ [(k, l)] })) := hid_of (by rw [writeF, if_neg (by simp [hf, hl]), if_neg hst, hM1, ← s3, hM1, hkn])
      rw [HE.out]
      rw [hst', ← hM1] at CS
      have HIN : Hid (∀ w1, Kept (fun k => k = b) w w1 → Rd w1 (.slice bo l.length bc) (by8 l)) := hid_of (fun w1 q => (hin.keep (keeps_kept q fun k hu e => hU k hu (by rw [e]; exact h.sb))).1)
      have HL : Hid (l.length ≤ 4096) := hid_of (by omega)
      have HF : Hid (k < M1.secs.length ∧ l.length = M1.sz ∧ M1.cache.length < 1000000) := hid_of (by rw [s2, s1, s3]; exact ⟨hk, hl, hc⟩)
      have HU := hid_of hU
      obtain ⟨m, hm⟩ : ∃ m, m = M.cache.length := ⟨_, rfl⟩
      have HM : Hid (m = M1.cache.length) := hid_of (by rw [hm, s3])
      have hm6 : m < 1000000 := by omega
      rw [← hm] at CS
      have hk9 : k ≤ 9223372036854775807 := by have := h.ok.secs; omega
      have CB := hid_of (fun (w1 : World) (bd bl : Nat) (vc : Value) (Dd Dl : DU) (fd : Nat → Option (List Int)) (cg : Bool) (cd : Int) (ps : List PV) (h1 : DK S w1 b M1 bd bl vc Dd Dl fd cg cd ps) (hr : Rd w1 (.slice bo l.length bc) (by8 l)) => (block_any w1 b M1.sz h1.ok.sz bo l.length bc l (by rw [HF.out.2.1]; exact Nat.le_refl _) hr h1.cells.2.1).mono fun e w2 q => (show e = .returned (.slice (some ⟨w1.heap.size, 0, none⟩) M1.sz M1.sz) ∧ (DK (Nw S w1 w2) w2 b M1 bd bl vc Dd Dl fd cg cd ps ∧ CR (Qp (Nw S w1 w2) b bd bl vc) w2 (.slice (some ⟨w1.heap.size, 0, none⟩) M1.sz M1.sz) l) ∧ Below w1.heap.size w1 w2 from ⟨q.1, h1.fresh q.2.2 (by have h9 := q.2.1; rwa [HF.out.2.1, Nat.sub_self, List.replicate_zero, List.append_nil] at h9) HF.out.2.1, q.2.2⟩))
      clear h hf hk hst hst' hl hkeep hin hz hz2 hM1 s1 s2 s3 hc hU hm c3
      go_enter Try.func22, Try.ntmps22
      go_wp2_with (first
        | (go_at_call 32; ((with_reducible refine (CH.out).mono ?_); (rintro e w1 ⟨rfl, rfl⟩)))
        | (go_at_call 35; ((with_reducible refine (CS.out).mono ?_); (rintro e w1 ⟨rfl, ⟨cd2, q1⟩, q2⟩)); have D1 := hid_of q1; have K1 := hid_of q2; clear q1 q2)
        | (go_at_call 33; ((with_reducible refine (CB.out w1 _ _ _ _ _ _ _ _ _ D1.out (HIN.out w1 K1.out)).mono ?_); (rintro e w2 ⟨rfl, q1, q2⟩)); have D2 := hid_of q1.1; have N2 := hid_of q1.2; have B2 := hid_of q2; clear q1 q2; obtain ⟨y0, y1, y2, y3, y4, y5, y6, y7⟩ := D2.out.cells; have D6 := hid_of (D2.out.keep (keeps_alloc _ w2 (.cells #[.int .i64 k, .slice (some ⟨w1.heap.size, 0, none⟩) M1.sz M1.sz] 65))); have N6 := hid_of (N2.out.keep (keeps_alloc _ w2 (.cells #[.int .i64 k, .slice (some ⟨w1.heap.size, 0, none⟩) M1.sz M1.sz] 65))); obtain ⟨z0, z1, z2, z3, z4, z5, z6, z7⟩ := D6.out.cells; have f6 := D6.out.free 3; have OC6 := hid_of (show (w2.alloc (.cells #[.int .i64 k, .slice (some ⟨w1.heap.size, 0, none⟩) M1.sz M1.sz] 65)).ownsRow 0 65 2 (.slice aC m cc) m (prs ps) from by have h9 := D6.out.cac; rwa [← HM.out] at h9))
        | (at_builtin; (refine wpList_gen 57 65 (.agg #[.int .i64 0, .slice none 0 0]) 32 2 dwL2.und dwL2.info dwL2.two (by decide) rfl _ _ rfl (B := 0) (v := .slice aC m cc) rfl OC6.out (Nat.zero_le _) (vx := .slice (some ⟨w2.heap.size, 0, none⟩) 1 1) rfl (src_dw w2 (.int .i64 k) (.slice (some ⟨w1.heap.size, 0, none⟩) M1.sz M1.sz) rfl rfl) (by omega) (by omega) ?_); intro ao cap w7 ga; have GA7 := hid_of ga; have L7 := hid_of (D6.out.gaL ga.gr (.slice ao (m + 1) cap)); obtain ⟨f7, c73, c74⟩ := D6.out.ga3 ga.gr; have HS7 := Nat.le_trans D6.out.lat.len D6.out.ok.secs; clear ga)
        | (at_mapUpdate; (refine wpList_mapUpdate_own _ rfl _ _ _ 56 rfl 3 32 lawK Try.underlying56 (RS M1.sz) bl _ Dl rfl L7.out (by unfold maxLen; omega) _ _ (kL k) rfl rfl (keyOf_kL k hk9) (.lit (.int .i64 w1.heap.size)) [] (rs_at _ _) ?_); intro w9 q1 q2; have O9 := hid_of q1; have G9 := hid_of q2; clear q1 q2))
      go_ret
      have D9 := D6.out.push' HM.out (s := k) (l := l) HF.out.1 HF.out.2.1 N6.out GA7.out O9.out G9.out
      have s1 := K1.out.size
      have s2 := B2.out.size
      have s7 := GA7.out.gr.size
      have s9 := G9.out.size
      simp at s7 s9
      refine ⟨rfl, ⟨_, _, _, _, _, _, _, _, _, D9.lt.mono fun q hq => ?_⟩, ?_⟩
      · rcases hq.1 with h1 | h1
        · rcases h1 with h1 | h1
          · exact Or.inl h1
          · exact Or.inr ⟨by omega, hq.2⟩
        · exact Or.inr ⟨by simp at h1; omega, hq.2⟩
      · have k2 : Kept S w w2 := (HKB.out _ K1.out).trans (Kept.ofBelow B2.out)
        have k7 := ((k2.alloc (.cells #[.int .i64 k, .slice (some ⟨w1.heap.size, 0, none⟩) M1.sz M1.sz] 65)).grown GA7.out.gr (fun q hq => Or.inl (D1.out.ci q hq).1)).setCell b 3 (.slice ao (m + 1) cap) (Or.inl D1.out.sb)
        exact k7.grown G9.out (fun q hq => Or.inl (by cases hq; exact D1.out.sl.1))
  · have HE : Hid (writeF M k l = (1, M)) := hid_of (by rw [writeF, if_pos (Or.inr hl)])
    rw [HE.out]
    have e0 : ((l.length : Int) != (z : Int)) = true := by simp; omega
    have e1 : ((l.length : Int) == (z : Int)) = false := by simp; omega
    have HK := hid_of hkeep
    clear h hf hk hl hkeep hin hz hz2
    go_enter Try.func22, Try.ntmps22
    go_wp2_with (go_at_call 32; ((with_reducible refine (CH.out).mono ?_); (rintro e w1 ⟨rfl, rfl⟩)))
    go_ret
    exact ⟨rfl, HK.out, Kept.refl _ _⟩
end
end Dg
end Go.Proofs.Yteceljhhhbmemaa

/- The program's disk: settle, Sync. Bounds on sizes alone. -/
namespace Go.Proofs.Yteceljhhhbmemaa
open Go.RowKit Go.Maps
set_option maxRecDepth 100000
set_option maxHeartbeats 3200000
theorem copy_any (sz bd bs nd ns : Nat) (Dd Ds : DU) (w : World) (hd : w.ownsMap Try.prog 3 (RS sz) bd nd Dd) (hs : w.ownsMap Try.prog 3 (RS sz) bs ns Ds) (hne : bd ≠ bs) (hroom : nd + Maps.size Ds ≤ maxLen) :
    Calls Try.prog 38 #[.map (some bd), .map (some bs)] w fun e w' => e = .returned (.tuple #[]) ∧ w'.ownsMap Try.prog 3 (RS sz) bd (nd + Maps.size Ds) (Lib.mergeD Dd Ds) ∧ w'.ownsMap Try.prog 3 (RS sz) bs ns Ds ∧ w.grownBy w' (some bd) :=
  AnyX.maps_Copy copy_lay lawK (RS sz) bd bs nd ns Dd Ds w hd hs hne hroom
theorem put_look (S : List (List Int)) (c : List (Nat × List Int)) (hc : ∀ p ∈ c, p.1 < S.length) {s : Nat} {x : List Int} (hx : S[s]? = some x) : ∀ k, k ≤ c.length → (putF S (c.take k))[s]? = some ((lookF c s k).getD x)
  | 0, _ => hx
  | k + 1, h => by
    obtain ⟨p, hp⟩ : ∃ p, c[k]? = some p := ⟨_, List.getElem?_eq_getElem (by omega)⟩
    have ih := put_look S c hc hx k (by omega)
    rw [putF_take _ _ _ _ hp, lookF, hp]
    simp only []
    by_cases e : p.1 = s
    · have hl := hc p (List.mem_of_getElem? hp)
      rw [if_pos e, ← e, List.getElem?_set_self (by rw [putF_len]; exact hl)]
      rfl
    · rw [if_neg e, List.getElem?_set_ne e]
      exact ih
namespace Dg
section
variable {S T : Nat → Prop} {w w' : World} {b : Nat} {M : DM} {bd bl : Nat} {vc : Value} {Dd Dl : DU} {fd : Nat → Option (List Int)} {cg : Bool} {cd : Int} {ps : List PV}
/-- What some map holds has become durable, the cache is empty. -/
theorem DK.settle (h : DK S w b M bd bl vc Dd Dl fd cg cd ps) {bs : Nat} {Dc : DU} {fc : Nat → Option (List Int)} (hs : MapR (Qp S b bd bl vc) w M.sz M.secs.length bs Dc fc) {w1 : World} {n : Nat} (ho : w1.ownsMap Try.prog 3 (RS M.sz) bd n (Lib.mergeD Dd Dc)) (hg : w.grownBy w1 (some bd))
    {L : List (List Int)} (hL : L.length = M.secs.length) (hL2 : ∀ s, s < M.secs.length → L[s]? = some (((fc s).or (fd s)).getD (List.replicate M.sz 0))) (ok : DM.Ok { M with secs := L, cache := [] }) :
    DK (fun k => S k ∨ k = w1.heap.size) (((w1.alloc (.map #[] 0)).setCell ⟨b, 3, none⟩ (.slice none 0 0)).setCell ⟨b, 4, none⟩ (.map (some w1.heap.size))) b { M with secs := L, cache := [] } bd w1.heap.size (.slice none 0 0) (Lib.mergeD Dd Dc) (.map []) (fun x => (fc x).or (fd x)) cg cd [] := by
  have hlt := h.blt
  have hbd := h.dur.blt
  have s1 := hg.size
  have ko : ∀ k, k ≠ b → k < w1.heap.size → (((w1.alloc (.map #[] 0)).setCell ⟨b, 3, none⟩ (.slice none 0 0)).setCell ⟨b, 4, none⟩ (.map (some w1.heap.size))).heap[k]? = w1.heap[k]? := fun k hk hl => (set_blk (Ne.symm hk)).trans ((set_blk (Ne.symm hk)).trans ((bel_alloc w1 _).block k hl))
  have hnew : (((w1.alloc (.map #[] 0)).setCell ⟨b, 3, none⟩ (.slice none 0 0)).setCell ⟨b, 4, none⟩ (.map (some w1.heap.size))).heap[w1.heap.size]? = (w1.alloc (.map #[] 0)).heap[w1.heap.size]? := (set_blk (by omega)).trans (set_blk (by omega))
  have m1 : MapR (fun k => Qp S b bd bl vc k ∧ k < w.heap.size) w1 M.sz M.secs.length bd (Lib.mergeD Dd Dc) (fun x => (fc x).or (fd x)) := h.dur.lt.merge hs.lt ho hg fun hq => hq.1.2.2.1 rfl
  have kq : Keeps (fun k => Qp S b bd bl vc k ∧ k < w.heap.size) w1 (((w1.alloc (.map #[] 0)).setCell ⟨b, 3, none⟩ (.slice none 0 0)).setCell ⟨b, 4, none⟩ (.map (some w1.heap.size))) := ⟨by simp, fun k hk hl => ko k hk.1.2.1 hl⟩
  refine ⟨Or.inl h.sb, ⟨Or.inl h.sd.1, h.sd.2⟩, ⟨Or.inr rfl, by omega, by omega⟩, ?_, ?_, ?_, ?_, World.ownsRow_nil _ _ _ _, fun k hk => by simp [Value.ownBlock] at hk, fun i p q hp => by simp at hp, ok, h.cnt⟩
  · have e : (w1.alloc (.map #[] 0)).heap[b]? = w.heap[b]? := ((bel_alloc w1 _).block b (by omega)).trans (hg.block b hlt (fun e => h.sd.2 (by cases e; rfl)))
    have e2 := Go.Proofs.Yteceljhhhbmemaa.blk_setCell (k := 4) (u := .map (some w1.heap.size)) (Go.Proofs.Yteceljhhhbmemaa.blk_setCell (k := 3) (u := .slice none 0 0) (e.trans h.box))
    rw [← hL] at e2
    exact e2
  · show MapR _ _ _ L.length _ _ _
    rw [hL]
    exact (m1.keep (ko bd h.sd.2 (by omega)) kq).mono fun k hk => ⟨Or.inl hk.1.1, hk.1.2.1, hk.1.2.2.1, by omega, by simp [Value.ownBlock]⟩
  · show ∀ s, s < L.length → L[s]? = _
    rw [hL]
    exact hL2
  · show MapR _ _ _ L.length _ _ (fun s => lookF [] s 0)
    rw [hL]
    exact (MapR.made (fun _ => False) w1 M.sz M.secs.length).keep hnew ⟨by simp, fun k hk => hk.elim⟩ |>.mono fun k hk => hk.elim
end
section
variable (S : Nat → Prop) (w : World) (b : Nat) (M : DM) (bd bl : Nat) (vc : Value) (Dd Dl : DU) (fd : Nat → Option (List Int)) (cg : Bool) (cd : Int) (ps : List PV)
theorem settle_any (h : DK S w b M bd bl vc Dd Dl fd cg cd ps) (bs : Nat) (Dc : DU) (fc : Nat → Option (List Int)) (hs : MapR (Qp S b bd bl vc) w M.sz M.secs.length bs Dc fc) (hne : bs ≠ bd)
    (L : List (List Int)) (hL : L.length = M.secs.length) (hL2 : ∀ s, s < M.secs.length → L[s]? = some (((fc s).or (fd s)).getD (List.replicate M.sz 0))) (ok : DM.Ok { M with secs := L, cache := [] }) :
    Calls Try.prog 36 #[.pointer (some ⟨b, 0, none⟩), .map (some bs)] w fun e w' => e = .returned (.tuple #[]) ∧ (∃ bl2 Dd2 fd2, DK (Nw S w w') w' b { M with secs := L, cache := [] } bd bl2 (.slice none 0 0) Dd2 (.map []) fd2 cg cd []) ∧ Kept S w w' := by
  have CC := hid_of (copy_any M.sz bd bs _ _ Dd Dc w h.dur.own hs.own (Ne.symm hne) (by have := h.dur.len; have := hs.len; have := h.ok.secs; unfold maxLen; omega))
  obtain ⟨c0, c1, c2, c3, c4, c5, c6, c7⟩ := h.cells
  have HD := hid_of (fun w1 n ho hg => h.settle hs (w1 := w1) (n := n) ho hg hL hL2 ok)
  have HB := hid_of (fun w1 (hg : w.grownBy w1 (some bd)) => (show (w1.alloc (.map #[] 0)).frozen? ⟨b, 3, none⟩ = false ∧ (w1.alloc (.map #[] 0)).frozen? ⟨b, 4, none⟩ = false ∧ (w1.alloc (.map #[] 0)).cell? ⟨b, 3, none⟩ = some vc ∧ (w1.alloc (.map #[] 0)).cell? ⟨b, 4, none⟩ = some (.map (some bl)) from by
    have e := ((bel_alloc w1 (.map #[] 0)).block b (by have := hg.size; have := h.blt; omega)).trans ((hg.block b h.blt (fun e => h.sd.2 (by cases e; rfl))).trans h.box)
    exact ⟨fr_blk e 3, fr_blk e 4, cell_blk e rfl, cell_blk e rfl⟩))
  have HSB := hid_of h.sb
  have HSD := hid_of h.sd.1
  have hmm := @run_makeMap Try.prog
  clear h hs hL hL2 ok
  go_enter Try.func36, Try.ntmps36
  go_wp2_with (go_at_call 38; ((with_reducible refine (CC.out).mono ?_); (rintro e w1 ⟨rfl, q1, q2, q3⟩)); have O1 := hid_of q1; have G1 := hid_of q3; obtain ⟨f3, f4, x3, x4⟩ := HB.out w1 q3; clear q1 q2 q3)
  go_end0
  have D3 := HD.out w1 _ O1.out G1.out
  refine ⟨rfl, ⟨_, _, _, D3.lt.mono fun k hk => ?_⟩, ?_⟩
  · rcases hk.1 with h1 | h1
    · exact Or.inl h1
    · exact Or.inr ⟨by have := G1.out.size; omega, hk.2⟩
  · exact (((((Kept.refl S w).grown G1.out (fun k hk => Or.inl (by cases hk; exact HSD.out))).alloc _).setCell b 3 _ (Or.inl HSB.out)).setCell b 4 _ (Or.inl HSB.out))
theorem sync_any (h : DK S w b M bd bl vc Dd Dl fd cg cd ps) : Calls Try.prog 23 #[.pointer (some ⟨b, 0, none⟩)] w fun e w' => e = .returned (.int .i64 (syncF M).1) ∧ DS (Nw S w w') w' b (syncF M).2 ∧ Kept S w w' := by
  have CS := hid_of (begin_any S w b M bd bl vc Dd Dl fd cg cd ps h)
  have HKB : Hid (∀ w1, Kept (fun k => k = b) w w1 → Kept S w w1) := hid_of (fun w1 q => q.mono fun k e => by rw [e]; exact h.sb)
  by_cases hst : (stepF M).1 = false
  · have HE : Hid (syncF M = (8, (stepF M).2)) := hid_of (by rw [syncF, if_pos hst])
    rw [HE.out]
    rw [hst] at CS
    clear h hst
    go_enter Try.func23, Try.ntmps23
    go_wp2_with (go_at_call 35; ((with_reducible refine (CS.out).mono ?_); (rintro e w1 ⟨rfl, ⟨cd2, q1⟩, q2⟩)); have D1 := hid_of q1; have K1 := hid_of q2; clear q1 q2)
    go_ret
    exact ⟨rfl, ⟨_, _, _, _, _, _, _, _, _, D1.out.mono fun k hk => Or.inl hk⟩, HKB.out _ K1.out⟩
  · have hst' : (stepF M).1 = true := by simpa using hst
    obtain ⟨M1, hM1⟩ : ∃ M1, M1 = (stepF M).2 := ⟨_, rfl⟩
    obtain ⟨s1, s2, s3⟩ := stepF_same M
    rw [← hM1] at s1 s2 s3
    have HE : Hid (syncF M = (0, { M1 with secs := putF M1.secs M1.cache, cache := [] })) := hid_of (by rw [syncF, if_neg hst, ← hM1, s2, s3])
    have HOK : Hid (DM.Ok { M1 with secs := putF M1.secs M1.cache, cache := [] }) := hid_of (by have h9 := h.ok.sync; rw [HE.out] at h9; exact h9)
    rw [HE.out]
    rw [hst', ← hM1] at CS
    have CT := hid_of (fun (w1 : World) (cd2 : Int) (d : DK S w1 b M1 bd bl vc Dd Dl fd cg cd2 ps) => settle_any S w1 b M1 bd bl vc Dd Dl fd cg cd2 ps d bl Dl (fun s => lookF M1.cache s M1.cache.length) d.lat d.sl.2.2 (putF M1.secs M1.cache) (putF_len _ _) (fun s hs => by
      have h9 := put_look M1.secs M1.cache (fun p hp => (d.ok.ent p hp).1) (d.sec s hs) M1.cache.length (Nat.le_refl _)
      rw [List.take_length] at h9
      rw [h9]
      cases lookF M1.cache s M1.cache.length <;> rfl) HOK.out)
    have HC := hid_of (fun (w1 : World) (cd2 : Int) (d : DK S w1 b M1 bd bl vc Dd Dl fd cg cd2 ps) => d.cells.2.2.2.2.1)
    clear h hst hst' hM1 s1 s2 s3
    go_enter Try.func23, Try.ntmps23
    go_wp2_with (first
      | (go_at_call 35; ((with_reducible refine (CS.out).mono ?_); (rintro e w1 ⟨rfl, ⟨cd2, q1⟩, q2⟩)); have D1 := hid_of q1; have K1 := hid_of q2; have x4 := HC.out w1 cd2 q1; clear q1 q2)
      | (go_at_call 36; ((with_reducible refine (CT.out w1 cd2 D1.out).mono ?_); (rintro e w2 ⟨rfl, ⟨bl2, Dd2, fd2, q1⟩, q2⟩)); have D2 := hid_of q1; have K2 := hid_of q2; clear q1 q2))
    go_ret
    exact ⟨rfl, ⟨_, _, _, _, _, _, _, _, _, D2.out.mono fun k hk => by
      rcases hk with h1 | h1
      · exact Or.inl h1
      · exact Or.inr ⟨by have := K1.out.size; omega, h1.2⟩⟩, (HKB.out _ K1.out).trans K2.out⟩
end
end Dg
end Go.Proofs.Yteceljhhhbmemaa

/- The program's disk: Crash. Bounds on sizes alone. -/
namespace Go.Proofs.Yteceljhhhbmemaa
open Go.RowKit Go.Maps
set_option maxRecDepth 100000
set_option maxHeartbeats 3200000
/-- The content that the first k writes that keep names give a sector. -/
def lookK (c : List (Nat × List Int)) (keep : List Bool) (s : Nat) : Nat → Option (List Int)
  | 0 => none
  | k + 1 => match c[k]?, keep[k]? with
    | some p, some true => if s = p.1 then some p.2 else lookK c keep s k
    | _, _ => lookK c keep s k
theorem keep_look (S : List (List Int)) (c : List (Nat × List Int)) (keep : List Bool) (hc : ∀ p ∈ c, p.1 < S.length) {s : Nat} {x : List Int} (hx : S[s]? = some x) : ∀ k, (keepF S c keep k)[s]? = some ((lookK c keep s k).getD x)
  | 0 => hx
  | k + 1 => by
    have ih := keep_look S c keep hc hx k
    rw [keepF, lookK]
    cases hp : c[k]? with
    | none => exact ih
    | some p =>
      cases hk : keep[k]? with
      | none => exact ih
      | some kb =>
        cases kb with
        | false => exact ih
        | true =>
          simp only []
          by_cases e : s = p.1
          · have hl := hc p (List.mem_of_getElem? hp)
            rw [if_pos e, e, List.getElem?_set_self (by rw [keepF_len]; exact hl)]
            rfl
          · rw [if_neg e, List.getElem?_set_ne (Ne.symm e)]
            exact ih
theorem lookK_yes {c : List (Nat × List Int)} {keep : List Bool} {k : Nat} {p : Nat × List Int} (hp : c[k]? = some p) (hk : keep[k]? = some true) (s : Nat) : lookK c keep s (k + 1) = if s = p.1 then some p.2 else lookK c keep s k := by
  rw [lookK, hp, hk]
theorem lookK_no {c : List (Nat × List Int)} {keep : List Bool} {k : Nat} (hk : keep[k]? = some false) (s : Nat) : lookK c keep s (k + 1) = lookK c keep s k := by
  rw [lookK, hk]
  cases c[k]? <;> rfl
namespace Dg
/-- Power is on again, no countdown. -/
theorem DK.reset {S : Nat → Prop} {w : World} {b : Nat} {M : DM} {bd bl : Nat} {vc : Value} {Dd Dl : DU} {fd : Nat → Option (List Int)} {cg : Bool} {cd : Int} {ps : List PV} (h : DK S w b M bd bl vc Dd Dl fd cg cd ps) :
    DK S (((w.setCell ⟨b, 5, none⟩ (.bool false)).setCell ⟨b, 6, none⟩ (.bool false)).setCell ⟨b, 7, none⟩ (.int .i64 0)) b { M with off := false, cnt := -1 } bd bl vc Dd Dl fd false 0 ps := by
  have k1 : Keeps (fun k => S k ∧ k ≠ b) w (((w.setCell ⟨b, 5, none⟩ (.bool false)).setCell ⟨b, 6, none⟩ (.bool false)).setCell ⟨b, 7, none⟩ (.int .i64 0)) := ((keeps_set w b 5 _ fun hk => hk.2 rfl).trans (keeps_set _ b 6 _ fun hk => hk.2 rfl)).trans (keeps_set _ b 7 _ fun hk => hk.2 rfl)
  have kq : Keeps (Qp S b bd bl vc) w (((w.setCell ⟨b, 5, none⟩ (.bool false)).setCell ⟨b, 6, none⟩ (.bool false)).setCell ⟨b, 7, none⟩ (.int .i64 0)) := ⟨k1.1, fun k hk => k1.2 k ⟨hk.1, hk.2.1⟩⟩
  exact ⟨h.sb, h.sd, h.sl, Go.Proofs.Yteceljhhhbmemaa.blk_setCell (k := 7) (Go.Proofs.Yteceljhhhbmemaa.blk_setCell (k := 6) (Go.Proofs.Yteceljhhhbmemaa.blk_setCell (k := 5) h.box)), h.dur.keep (k1.2 bd h.sd h.dur.blt) kq, h.sec, h.lat.keep (k1.2 bl ⟨h.sl.1, h.sl.2.1⟩ h.lat.blt) kq, own_same h.cac fun x hx => k1.2 x ⟨(h.ci x hx).1, (h.ci x hx).2.1⟩ (h.cac.lt x hx).2, h.ci, fun i p q hp hq => ⟨(h.ent i p q hp hq).1, (h.ent i p q hp hq).2.1, (h.ent i p q hp hq).2.2.keep kq⟩, ⟨h.ok.sz, h.ok.secs, h.ok.con, h.ok.ent, by show (-1 : Int) ≤ -1 ∧ (-1 : Int) ≤ _; omega⟩, Or.inr ⟨rfl, rfl⟩⟩
theorem DK.frees {S : Nat → Prop} {w : World} {b : Nat} {M : DM} {bd bl : Nat} {vc : Value} {Dd Dl : DU} {fd : Nat → Option (List Int)} {cg : Bool} {cd : Int} {ps : List PV} (h : DK S w b M bd bl vc Dd Dl fd cg cd ps) : w.frozen? ⟨b, 5, none⟩ = false ∧ (w.setCell ⟨b, 5, none⟩ (.bool false)).frozen? ⟨b, 6, none⟩ = false ∧ ((w.setCell ⟨b, 5, none⟩ (.bool false)).setCell ⟨b, 6, none⟩ (.bool false)).frozen? ⟨b, 7, none⟩ = false :=
  ⟨fr_blk h.box 5, fr_blk (Go.Proofs.Yteceljhhhbmemaa.blk_setCell (k := 5) h.box) 6, fr_blk (Go.Proofs.Yteceljhhhbmemaa.blk_setCell (k := 6) (Go.Proofs.Yteceljhhhbmemaa.blk_setCell (k := 5) h.box)) 7⟩
section
variable (S : Nat → Prop) (w : World) (b : Nat) (M : DM) (bd bl : Nat) (vc : Value) (Dd Dl : DU) (fd : Nat → Option (List Int)) (cg : Bool) (cd : Int) (ps : List PV)
theorem crash_any (U : Nat → Prop) (ko : Option Addr) (kn kc : Nat) (keep : List Bool) (hc : M.cache.length ≤ 1000000) (hin : Rd w (.slice ko kn kc) (bls keep) ∧ (0 < (bls keep).length → In U (.slice ko kn kc))) (hU : ∀ k, U k → ¬ S k) (h : DK S w b M bd bl vc Dd Dl fd cg cd ps) :
    Calls Try.prog 25 #[.pointer (some ⟨b, 0, none⟩), .slice ko kn kc] w fun e w' => e = .returned (.tuple #[]) ∧ DS (Nw S w w') w' b (crashF M keep) ∧ Kept S w w' := by
  obtain ⟨aC, cc, rfl⟩ := own_shape h.cac
  obtain ⟨m, hm⟩ : ∃ m, m = M.cache.length := ⟨_, rfl⟩
  have HM := hid_of hm
  have hm6 : m ≤ 1000000 := by rw [hm]; exact hc
  have hkn : kn = keep.length := by have := (rd_cut hin.1).1; rwa [bls_length] at this
  subst hkn
  have hkc := (rd_cut hin.1).2
  have hcc := h.prd.cut.2
  rw [← hm] at hcc
  obtain ⟨c0, c1, c2, c3, c4, c5, c6, c7⟩ := h.cells
  rw [← hm] at c3
  have hmm := @run_makeMap Try.prog
  have h0 := h.keep (keeps_alloc S w (.map #[] 0))
  obtain ⟨y0, y1, y2, y3, y4, y5, y6, y7⟩ := h0.cells
  rw [← hm] at y3
  obtain ⟨l, hl⟩ : ∃ l, l = keep.length := ⟨_, rfl⟩
  have HL := hid_of hl
  have hl9 : l ≤ 9223372036854775807 := by omega
  have HD := hid_of (fun (X : World) (hX : Below w.heap.size w X) => h.lt.keep (w' := X) ⟨hX.size, fun k hk _ => hX.block k hk.2⟩)
  have HR := hid_of (fun (X : World) (hX : Below w.heap.size w X) => (hin.1.keepN (w' := X) (S := fun k => k < w.heap.size) (fun h0 => hin.1.inlt h0) hX.size fun k hk _ => hX.block k hk))
  have HP := hid_of (fun (X : World) (hX : Below w.heap.size w X) => (h.lt.keep (w' := X) ⟨hX.size, fun k hk _ => hX.block k hk.2⟩).prd)
  have HE := hid_of h.ent
  have HPL := hid_of h.pl
  have HZ := hid_of (MapR.made (Qp (fun k => S k ∧ k < w.heap.size) b bd bl (.slice aC M.cache.length cc)) w M.sz M.secs.length)
  have hn9 : M.secs.length ≤ 65536 := h.ok.secs
  have HQ := hid_of (fun j q (hq : M.cache[j]? = some q) => h.ok.ent q (List.mem_of_getElem? hq))
  have HB0 := hid_of (bel_alloc w (.map #[] 0))
  rw [← hm] at HD HP HZ HPL HE
  rw [← hl] at HR hkc ⊢
  have HST := hid_of (fun (X : World) (Dc : DU) (hX : Below w.heap.size w X) (hmp : MapR (Qp (fun k => S k ∧ k < w.heap.size) b bd bl (.slice aC m cc)) X M.sz M.secs.length w.heap.size Dc (fun s => lookK M.cache keep s (min m l))) => settle_any (fun k => S k ∧ k < w.heap.size) X b M bd bl (.slice aC m cc) Dd Dl fd cg cd ps (HD.out X hX) w.heap.size Dc (fun s => lookK M.cache keep s (min m l)) hmp (by have := h.dur.blt; omega) (keepF M.secs M.cache keep (min m l)) (keepF_len _ _ _ _) (fun s hs => by
    have h9 := keep_look M.secs M.cache keep (fun p hp => (h.ok.ent p hp).1) (h.sec s hs) (min m l)
    rw [h9]
    cases lookK M.cache keep s (min m l) <;> rfl) ⟨h.ok.sz, by show (keepF _ _ _ _).length ≤ _; rw [keepF_len]; exact h.ok.secs, keepF_con _ _ _ _ h.ok.con (fun p hp => (h.ok.ent p hp).2) _, fun p hp => by simp at hp, h.ok.cnt⟩)
  have HCR : Hid (crashF M keep = { M with secs := keepF M.secs M.cache keep (min m l), cache := [], off := false, cnt := -1 }) := hid_of (by rw [crashF, hm, hl])
  have HSB := hid_of h.sb
  by_cases hml : l ≤ m
  · have d2 : decide ((l : Int) ≤ (m : Int)) = true := by simp; omega
    have d3 : decide ((m : Int) < (l : Int)) = false := by simp; omega
    have d4 : (l : Int) ≤ (cc : Int) := by omega
    rw [show min m l = l by omega] at HST HCR
    clear hm hc hU hl h h0 hin
    go_enter Try.func25, Try.ntmps25
    go_wp2
    go_quiet (fail)
    go_wp2
    go_loopw [5, 6, 22] (fun v5 v6 iv wr => ∃ (j : Nat) (Dc : DU), j ≤ l ∧ iv = .int .i64 j ∧ Hid (MapR (Qp (fun k => S k ∧ k < w.heap.size) b bd bl (.slice aC m cc)) wr M.sz M.secs.length w.heap.size Dc (fun s => lookK M.cache keep s j)) ∧ Hid (Below w.heap.size w wr)) (fun _ _ iv _ => l - (intOf iv).toNat)
    case atStart => exact ⟨0, _, Nat.zero_le _, rfl, hid_of (HZ.out.keep rfl ⟨Nat.le_refl _, fun _ _ _ => rfl⟩), hid_of (bel_drewN HB0.out _)⟩
    case round =>
      obtain ⟨j, Dc, hj, rfl, hmp, hb⟩ := hrel
      by_cases hlt : j < l
      · have hdd : decide (j < l) = true := by simpa using hlt
        have hjq : (j : Int) < (l : Int) := by omega
        obtain ⟨p, hp⟩ : ∃ p, ps[j]? = some p := ⟨_, List.getElem?_eq_getElem (by have := HPL.out; omega)⟩
        obtain ⟨q, hq⟩ : ∃ q, M.cache[j]? = some q := ⟨_, List.getElem?_eq_getElem (by have := HM.out; omega)⟩
        obtain ⟨kb, hkb⟩ : ∃ kb, keep[j]? = some kb := ⟨_, List.getElem?_eq_getElem (by have := HL.out; omega)⟩
        obtain ⟨gk, ok, rfl, kk⟩ := rd_at (HR.out wr hb.out) (i := j) (t := .bool kb) (by rw [bls, List.getElem?_map, hkb]; rfl)
        obtain ⟨gc, oc, rfl, k0, k1⟩ := (HP.out wr hb.out).get hp
        obtain ⟨r1, ⟨g, r2⟩, r3⟩ := HE.out j p q hp hq
        rw [r1] at k0
        rw [r2] at k1
        obtain ⟨W1, hW1⟩ : ∃ W1, W1 = wr.alloc (.cells #[.int .i64 q.1, .slice (some ⟨g, 0, none⟩) M.sz M.sz] 65) := ⟨_, rfl⟩
        have hb1 : Hid (Below w.heap.size w W1) := hid_of (by rw [hW1]; exact hb.out.trans ((bel_alloc wr _).mono hb.out.size))
        obtain ⟨_, _, e9, kk1⟩ := rd_at (HR.out W1 hb1.out) (i := j) (t := .bool kb) (by rw [bls, List.getElem?_map, hkb]; rfl)
        cases e9
        have m1 : Hid (MapR (Qp (fun k => S k ∧ k < w.heap.size) b bd bl (.slice (some ⟨gc, oc, none⟩) m cc)) W1 M.sz M.secs.length w.heap.size Dc (fun s => lookK M.cache keep s j)) := hid_of (by
          rw [hW1]
          exact hmp.out.keep ((bel_alloc wr _).block _ hmp.out.blt) (keeps_belw (bel_alloc wr _)))
        have hn1 : W1.heap[wr.heap.size]? = some (.cells [.int .i64 q.1, .slice (some ⟨g, 0, none⟩) M.sz M.sz].toArray 65 (0, 0)) := by rw [hW1]; exact heap_alloc_new wr _
        have n0 := cell_blk (j := 0) hn1 rfl
        have n1 := cell_blk (j := 1) hn1 rfl
        obtain ⟨hq1, hq2⟩ := HQ.out j q hq
        have hq9 : q.1 ≤ 9223372036854775807 := by omega
        have RV : Hid (CR (Qp (fun k => S k ∧ k < w.heap.size) b bd bl (.slice (some ⟨gc, oc, none⟩) m cc)) W1 (.slice (some ⟨g, 0, none⟩) M.sz M.sz) q.2) := hid_of (by
          rw [r2] at r3
          exact (CR.keep r3.lt ⟨hb1.out.size, fun k hk _ => hb1.out.block k hk.2⟩).mono fun k hk => ⟨⟨hk.1.1, hk.2⟩, hk.1.2⟩)
        have hsz1 := m1.out.len
        have HKB := hid_of hkb
        have HQJ := hid_of hq
        rw [hW1] at kk1 n0 n1
        clear r3 hp hq hkb
        cases kb with
        | false =>
          have HN : Hid (MapR (Qp (fun k => S k ∧ k < w.heap.size) b bd bl (.slice (some ⟨gc, oc, none⟩) m cc)) W1 M.sz M.secs.length w.heap.size Dc (fun s => lookK M.cache keep s (j + 1))) := hid_of (m1.out.congr fun s hs => (lookK_no HKB.out s).symm)
          rw [hW1] at HN hb1
          go_wp2
          go_roundw
          case rel => exact ⟨j + 1, Dc, by omega, by go_num, HN, hb1⟩
          case measure => simp [intOf]; omega
        | true =>
          have O1 : Hid (W1.ownsMap Try.prog 3 (RS M.sz) w.heap.size (Maps.size Dc) Dc) := hid_of m1.out.own
          have HN := hid_of (fun w9 n (ho : w9.ownsMap Try.prog 3 (RS M.sz) w.heap.size n (Dc.put (kL q.1) (.lit (.int .i64 g)))) (hg : W1.grownBy w9 (some w.heap.size)) => (show MapR (Qp (fun k => S k ∧ k < w.heap.size) b bd bl (.slice (some ⟨gc, oc, none⟩) m cc)) w9 M.sz M.secs.length w.heap.size (Dc.put (kL q.1) (.lit (.int .i64 g))) (fun s => lookK M.cache keep s (j + 1)) ∧ Below w.heap.size w w9 from ⟨(m1.out.put hq1 RV.out ho hg (fun hk => Nat.lt_irrefl _ hk.1.2)).congr fun s hs => (lookK_yes HQJ.out HKB.out s).symm, hb1.out.grown hg hb1.out.size (fun k hk => by cases hk; exact Nat.le_refl _)⟩))
          rw [hW1] at O1 HN
          go_wp2_with (at_mapUpdate; refine wpList_mapUpdate_own _ rfl _ _ _ 56 rfl 3 32 lawK Try.underlying56 (RS M.sz) w.heap.size _ Dc rfl O1.out (by unfold maxLen; omega) _ _ (kL q.1) rfl rfl (keyOf_kL q.1 hq9) (.lit (.int .i64 g)) [] (rs_at _ _) ?_; intro w9 q1 q2; obtain ⟨z1, z2⟩ := HN.out w9 _ q1 q2; have M9 := hid_of z1; have B9 := hid_of z2; clear z1 z2 q1 q2)
          go_roundw
          case rel => exact ⟨j + 1, _, by omega, by go_num, M9, B9⟩
          case measure => simp [intOf]; omega
      · obtain rfl : l = j := by omega
        have hdd : decide (l < l) = false := by simp
        go_wp2_with (go_at_call 36; ((with_reducible refine (HST.out wr Dc hb.out hmp.out).mono ?_); (rintro e w2 ⟨rfl, ⟨bl2, Dd2, fd2, q1⟩, q2⟩)); obtain ⟨x0, x1, x2, x3, x4, x5, x6, x7⟩ := q1.cells; obtain ⟨f5, f6, f7⟩ := q1.frees; have D2 := hid_of q1.reset; have K2 := hid_of q2; clear q1 q2)
        go_end0
        have hsb := hb.out.size
        rw [HCR.out]
        refine ⟨rfl, ⟨_, _, _, _, _, _, _, _, _, D2.out.lt.mono fun k hk => ?_⟩, ?_⟩
        · rcases hk.1 with h1 | h1
          · exact Or.inl h1.1
          · exact Or.inr ⟨by omega, hk.2⟩
        · exact ((((Kept.ofBelow hb.out).trans (K2.out.mono fun k hk => hk.1)).setCell b 5 _ (Or.inl HSB.out)).setCell b 6 _ (Or.inl HSB.out)).setCell b 7 _ (Or.inl HSB.out)
  · have d2 : decide ((l : Int) ≤ (m : Int)) = false := by simp; omega
    have d3 : decide ((m : Int) < (l : Int)) = true := by simp; omega
    have d4 : (m : Int) ≤ (cc : Int) := by omega
    rw [show min m l = m by omega] at HST HCR
    clear hm hc hU hl h h0 hin
    go_enter Try.func25, Try.ntmps25
    go_wp2
    go_quiet (fail)
    go_wp2
    go_loopw [5, 6, 22] (fun v5 v6 iv wr => ∃ (j : Nat) (Dc : DU), j ≤ m ∧ iv = .int .i64 j ∧ Hid (MapR (Qp (fun k => S k ∧ k < w.heap.size) b bd bl (.slice aC m cc)) wr M.sz M.secs.length w.heap.size Dc (fun s => lookK M.cache keep s j)) ∧ Hid (Below w.heap.size w wr)) (fun _ _ iv _ => m - (intOf iv).toNat)
    case atStart => exact ⟨0, _, Nat.zero_le _, rfl, hid_of (HZ.out.keep rfl ⟨Nat.le_refl _, fun _ _ _ => rfl⟩), hid_of (bel_drewN HB0.out _)⟩
    case round =>
      obtain ⟨j, Dc, hj, rfl, hmp, hb⟩ := hrel
      by_cases hlt : j < m
      · have hdd : decide (j < m) = true := by simpa using hlt
        have hjq : (j : Int) < (m : Int) := by omega
        obtain ⟨p, hp⟩ : ∃ p, ps[j]? = some p := ⟨_, List.getElem?_eq_getElem (by have := HPL.out; omega)⟩
        obtain ⟨q, hq⟩ : ∃ q, M.cache[j]? = some q := ⟨_, List.getElem?_eq_getElem (by have := HM.out; omega)⟩
        obtain ⟨kb, hkb⟩ : ∃ kb, keep[j]? = some kb := ⟨_, List.getElem?_eq_getElem (by have := HL.out; omega)⟩
        obtain ⟨gk, ok, rfl, kk⟩ := rd_at (HR.out wr hb.out) (i := j) (t := .bool kb) (by rw [bls, List.getElem?_map, hkb]; rfl)
        obtain ⟨gc, oc, rfl, k0, k1⟩ := (HP.out wr hb.out).get hp
        obtain ⟨r1, ⟨g, r2⟩, r3⟩ := HE.out j p q hp hq
        rw [r1] at k0
        rw [r2] at k1
        obtain ⟨W1, hW1⟩ : ∃ W1, W1 = wr.alloc (.cells #[.int .i64 q.1, .slice (some ⟨g, 0, none⟩) M.sz M.sz] 65) := ⟨_, rfl⟩
        have hb1 : Hid (Below w.heap.size w W1) := hid_of (by rw [hW1]; exact hb.out.trans ((bel_alloc wr _).mono hb.out.size))
        obtain ⟨_, _, e9, kk1⟩ := rd_at (HR.out W1 hb1.out) (i := j) (t := .bool kb) (by rw [bls, List.getElem?_map, hkb]; rfl)
        cases e9
        have m1 : Hid (MapR (Qp (fun k => S k ∧ k < w.heap.size) b bd bl (.slice (some ⟨gc, oc, none⟩) m cc)) W1 M.sz M.secs.length w.heap.size Dc (fun s => lookK M.cache keep s j)) := hid_of (by
          rw [hW1]
          exact hmp.out.keep ((bel_alloc wr _).block _ hmp.out.blt) (keeps_belw (bel_alloc wr _)))
        have hn1 : W1.heap[wr.heap.size]? = some (.cells [.int .i64 q.1, .slice (some ⟨g, 0, none⟩) M.sz M.sz].toArray 65 (0, 0)) := by rw [hW1]; exact heap_alloc_new wr _
        have n0 := cell_blk (j := 0) hn1 rfl
        have n1 := cell_blk (j := 1) hn1 rfl
        obtain ⟨hq1, hq2⟩ := HQ.out j q hq
        have hq9 : q.1 ≤ 9223372036854775807 := by omega
        have RV : Hid (CR (Qp (fun k => S k ∧ k < w.heap.size) b bd bl (.slice (some ⟨gc, oc, none⟩) m cc)) W1 (.slice (some ⟨g, 0, none⟩) M.sz M.sz) q.2) := hid_of (by
          rw [r2] at r3
          exact (CR.keep r3.lt ⟨hb1.out.size, fun k hk _ => hb1.out.block k hk.2⟩).mono fun k hk => ⟨⟨hk.1.1, hk.2⟩, hk.1.2⟩)
        have hsz1 := m1.out.len
        have HKB := hid_of hkb
        have HQJ := hid_of hq
        rw [hW1] at kk1 n0 n1
        clear r3 hp hq hkb
        cases kb with
        | false =>
          have HN : Hid (MapR (Qp (fun k => S k ∧ k < w.heap.size) b bd bl (.slice (some ⟨gc, oc, none⟩) m cc)) W1 M.sz M.secs.length w.heap.size Dc (fun s => lookK M.cache keep s (j + 1))) := hid_of (m1.out.congr fun s hs => (lookK_no HKB.out s).symm)
          rw [hW1] at HN hb1
          go_wp2
          go_roundw
          case rel => exact ⟨j + 1, Dc, by omega, by go_num, HN, hb1⟩
          case measure => simp [intOf]; omega
        | true =>
          have O1 : Hid (W1.ownsMap Try.prog 3 (RS M.sz) w.heap.size (Maps.size Dc) Dc) := hid_of m1.out.own
          have HN := hid_of (fun w9 n (ho : w9.ownsMap Try.prog 3 (RS M.sz) w.heap.size n (Dc.put (kL q.1) (.lit (.int .i64 g)))) (hg : W1.grownBy w9 (some w.heap.size)) => (show MapR (Qp (fun k => S k ∧ k < w.heap.size) b bd bl (.slice (some ⟨gc, oc, none⟩) m cc)) w9 M.sz M.secs.length w.heap.size (Dc.put (kL q.1) (.lit (.int .i64 g))) (fun s => lookK M.cache keep s (j + 1)) ∧ Below w.heap.size w w9 from ⟨(m1.out.put hq1 RV.out ho hg (fun hk => Nat.lt_irrefl _ hk.1.2)).congr fun s hs => (lookK_yes HQJ.out HKB.out s).symm, hb1.out.grown hg hb1.out.size (fun k hk => by cases hk; exact Nat.le_refl _)⟩))
          rw [hW1] at O1 HN
          go_wp2_with (at_mapUpdate; refine wpList_mapUpdate_own _ rfl _ _ _ 56 rfl 3 32 lawK Try.underlying56 (RS M.sz) w.heap.size _ Dc rfl O1.out (by unfold maxLen; omega) _ _ (kL q.1) rfl rfl (keyOf_kL q.1 hq9) (.lit (.int .i64 g)) [] (rs_at _ _) ?_; intro w9 q1 q2; obtain ⟨z1, z2⟩ := HN.out w9 _ q1 q2; have M9 := hid_of z1; have B9 := hid_of z2; clear z1 z2 q1 q2)
          go_roundw
          case rel => exact ⟨j + 1, _, by omega, by go_num, M9, B9⟩
          case measure => simp [intOf]; omega
      · obtain rfl : m = j := by omega
        have hdd : decide (m < m) = false := by simp
        go_wp2_with (go_at_call 36; ((with_reducible refine (HST.out wr Dc hb.out hmp.out).mono ?_); (rintro e w2 ⟨rfl, ⟨bl2, Dd2, fd2, q1⟩, q2⟩)); obtain ⟨x0, x1, x2, x3, x4, x5, x6, x7⟩ := q1.cells; obtain ⟨f5, f6, f7⟩ := q1.frees; have D2 := hid_of q1.reset; have K2 := hid_of q2; clear q1 q2)
        go_end0
        have hsb := hb.out.size
        rw [HCR.out]
        refine ⟨rfl, ⟨_, _, _, _, _, _, _, _, _, D2.out.lt.mono fun k hk => ?_⟩, ?_⟩
        · rcases hk.1 with h1 | h1
          · exact Or.inl h1.1
          · exact Or.inr ⟨by omega, hk.2⟩
        · exact ((((Kept.ofBelow hb.out).trans (K2.out.mono fun k hk => hk.1)).setCell b 5 _ (Or.inl HSB.out)).setCell b 6 _ (Or.inl HSB.out)).setCell b 7 _ (Or.inl HSB.out)
end
end Dg
end Go.Proofs.Yteceljhhhbmemaa

/- Rows of structs of four cells: what a slice reads as, a slice of the call's own, append. Bounds on sizes alone. -/
namespace Go.Proofs.Yteceljhhhbmemaa
open Go.RowKit

structure QV where
  a : Value
  b : Value
  c : Value
  d : Value
def QV.cs (t : QV) : List Value := [t.a, t.b, t.c, t.d]
/-- The cells of a list of structs. -/
def qds (l : List QV) : List Value := l.flatMap QV.cs
theorem qds_length (l : List QV) : (qds l).length = l.length * 4 := by
  induction l with
  | nil => rfl
  | cons t r ih => simp only [qds, QV.cs, List.flatMap_cons, List.length_append, List.length_cons, List.length_nil] at ih ⊢; omega
theorem qds_append (a b : List QV) : qds (a ++ b) = qds a ++ qds b := by simp [qds]
theorem qds_get : ∀ (l : List QV) (i : Nat) (t : QV), l[i]? = some t → (qds l)[i * 4]? = some t.a ∧ (qds l)[i * 4 + 1]? = some t.b ∧ (qds l)[i * 4 + 2]? = some t.c ∧ (qds l)[i * 4 + 3]? = some t.d := by
  intro l
  induction l with
  | nil => intro i t h; simp at h
  | cons s r ih =>
    intro i t h
    cases i with
    | zero => simp at h; subst h; exact ⟨rfl, rfl, rfl, rfl⟩
    | succ i =>
      have h1 := ih i t (by simpa using h)
      have e : qds (s :: r) = s.a :: s.b :: s.c :: s.d :: qds r := rfl
      rw [e, show (i + 1) * 4 = i * 4 + 1 + 1 + 1 + 1 by omega]
      exact h1
/-- The slice v reads as the structs l. -/
def QRd (w : World) (v : Value) (l : List QV) : Prop :=
  ∃ ao cap, v = .slice ao l.length cap ∧ l.length ≤ cap ∧ cap ≤ 9223372036854775807 ∧ (0 < l.length → ∃ g o, ao = some ⟨g, o, none⟩ ∧ g < w.heap.size ∧ ∀ i t, l[i]? = some t → w.cell? ⟨g, o + i * 4, none⟩ = some t.a ∧ w.cell? ⟨g, o + i * 4 + 1, none⟩ = some t.b ∧ w.cell? ⟨g, o + i * 4 + 2, none⟩ = some t.c ∧ w.cell? ⟨g, o + i * 4 + 3, none⟩ = some t.d)
theorem QRd.later {w w' : World} {v : Value} {l : List QV} {B : Nat} (h : QRd w v l) (hb : Below B w w') (hB : w.heap.size ≤ B) : QRd w' v l := by
  obtain ⟨ao, cap, h1, h2, h3, h4⟩ := h
  refine ⟨ao, cap, h1, h2, h3, fun h0 => ?_⟩
  obtain ⟨g, o, q1, q2, q3⟩ := h4 h0
  refine ⟨g, o, q1, Nat.lt_of_lt_of_le q2 hb.size, fun i t ht => ?_⟩
  obtain ⟨r1, r2, r3, r4⟩ := q3 i t ht
  exact ⟨(hb.cell (p := ⟨g, o + i * 4, none⟩) (by show g < B; omega)).trans r1, (hb.cell (p := ⟨g, o + i * 4 + 1, none⟩) (by show g < B; omega)).trans r2, (hb.cell (p := ⟨g, o + i * 4 + 2, none⟩) (by show g < B; omega)).trans r3, (hb.cell (p := ⟨g, o + i * 4 + 3, none⟩) (by show g < B; omega)).trans r4⟩
theorem QRd.at {w w' : World} {v : Value} {l : List QV} (h : QRd w v l) (hb : Below w.heap.size w w') : QRd w' v l := h.later hb (Nat.le_refl _)
theorem qrd_nil (w : World) : QRd w (.slice none 0 0) [] := ⟨none, 0, rfl, Nat.le_refl _, by omega, fun h => by simp at h⟩
theorem QRd.cut {w : World} {ao : Option Addr} {n cap : Nat} {l : List QV} (h : QRd w (.slice ao n cap) l) : n = l.length ∧ n ≤ cap ∧ cap ≤ 9223372036854775807 := by
  obtain ⟨_, _, e, h2, h3, _⟩ := h
  simp only [Value.slice.injEq] at e
  omega
theorem QRd.get {w : World} {ao : Option Addr} {n cap : Nat} {l : List QV} (h : QRd w (.slice ao n cap) l) {i : Nat} {t : QV} (hi : l[i]? = some t) : ∃ g o, ao = some ⟨g, o, none⟩ ∧ w.cell? ⟨g, o + i * 4, none⟩ = some t.a ∧ w.cell? ⟨g, o + i * 4 + 1, none⟩ = some t.b ∧ w.cell? ⟨g, o + i * 4 + 2, none⟩ = some t.c ∧ w.cell? ⟨g, o + i * 4 + 3, none⟩ = some t.d := by
  obtain ⟨_, _, e, h2, h3, h4⟩ := h
  simp only [Value.slice.injEq] at e
  obtain ⟨rfl, _, rfl⟩ := e
  obtain ⟨g, o, q1, _, q3⟩ := h4 (by have := (List.getElem?_eq_some_iff.1 hi).1; omega)
  exact ⟨g, o, q1, q3 i t hi⟩

/-- A slice of the call's own that holds l; below B the world is as w0 was. -/
def OQ (E : TypeId) (B : Nat) (w0 w : World) (v : Value) (l : List QV) : Prop := B ≤ w0.heap.size ∧ Below B w0 w ∧ w.ownsRow B E 4 v l.length (qds l)
section
variable {E : TypeId} {B : Nat} {w0 w w' : World} {v : Value} {l : List QV}
theorem OQ.size (h : OQ E B w0 w v l) : B ≤ w.heap.size := Nat.le_trans h.1 h.2.1.size
theorem OQ.own (h : OQ E B w0 w v l) : w.ownsRow B E 4 v l.length (qds l) := h.2.2
theorem OQ.bel (h : OQ E B w0 w v l) : Below B w0 w := h.2.1
theorem OQ.app {n : Nat} {v' : Value} {m : List QV} (h : OQ E B w0 w v l) (hown : w'.ownsRow B E 4 v' n (qds l ++ qds m)) (hn : n = l.length + m.length) (hg : w.grownBy w' v.ownBlock) : OQ E B w0 w' v' (l ++ m) := by
  subst hn
  refine ⟨h.1, h.2.1.grown hg h.size (fun k hk => (h.own.lt k hk).1), ?_⟩
  rw [List.length_append, qds_append]
  exact hown
theorem OQ.alloc (h : OQ E B w0 w v l) (o : Obj) : OQ E B w0 (w.alloc o) v l := ⟨h.1, h.2.1.alloc h.size _, h.2.2.alloc o⟩
theorem OQ.drewN (h : OQ E B w0 w v l) (k : Nat) : OQ E B w0 (w.drewN k) v l := ⟨h.1, ⟨h.2.1.os, h.2.1.tape, h.2.1.output, h.2.1.size, h.2.1.block⟩, h.2.2⟩
theorem OQ.drew (h : OQ E B w0 w v l) : OQ E B w0 w.drew v l := ⟨h.1, h.2.1.drew, h.2.2.drew⟩
theorem OQ.later (h : OQ E B w0 w v l) (hb : Below w.heap.size w w') : OQ E B w0 w' v l :=
  ⟨h.1, h.2.1.trans (hb.mono h.size), own_same h.own fun k hk => hb.block k (h.own.lt k hk).2⟩
theorem oq_nil (E : TypeId) (w : World) : OQ E w.heap.size w w (.slice none 0 0) [] := ⟨Nat.le_refl _, Below.refl _ _, ⟨by simp [qds], .inl ⟨rfl, rfl⟩⟩⟩
theorem OQ.start (h : OQ E B w0 w v l) {B2 : Nat} {w2 : World} (hB : B2 ≤ w2.heap.size) (hb : Below B2 w2 w0) (hle : B2 ≤ B) : OQ E B2 w2 w v l := by
  refine ⟨hB, hb.trans (h.bel.mono hle), h.own.1, ?_⟩
  rcases h.own.2 with h2 | ⟨g, cap, cur, hv, hb2, hg, r⟩
  · exact .inl h2
  · exact .inr ⟨g, cap, cur, hv, Nat.le_trans hle hb2, hg, r⟩
theorem OQ.qrd (h : OQ E B w0 w v l) : QRd w v l := by
  rcases h.own.2 with ⟨h1, h2⟩ | ⟨g, c, cur, h1, _, hg, hnc, hcm, _, ht⟩
  · exact ⟨none, 0, by rw [h1, h2], by omega, by omega, fun h => by omega⟩
  · unfold maxLen at hcm
    refine ⟨_, _, h1, hnc, by omega, fun h0 => ⟨g, 0, rfl, lt_of_block hg, fun i t hi => ?_⟩⟩
    obtain ⟨g1, g2, g3, g4⟩ := qds_get l i t hi
    have q : ∀ j u, (qds l)[j]? = some u → w.cell? ⟨g, 0 + j, none⟩ = some u := fun j u hu => by
      have := World.news_of_block hg j u (by
        rw [← ht, List.getElem?_take] at hu
        split at hu
        · exact hu
        · cases hu)
      rw [Addr.add_mid] at this
      exact this
    exact ⟨q _ _ g1, q _ _ g2, q _ _ g3, q _ _ g4⟩
end
/-- A slice type S over a struct type E of four cells. -/
structure Elem4 (P : Program) (S E : TypeId) (z : Value) (eb : Nat) : Prop where
  und : P.underlying S = some (.slice E)
  info : (P.info? E).map (fun i => (i.zero, i.size, i.bytes)) = some (some z, 4, eb)
  four : z.cells.size = 4
theorem QRd.src {P : Program} {S E : TypeId} {z : Value} {eb : Nat} (T : Elem4 P S E z eb) {w : World} {v : Value} {l : List QV} (h : QRd w v l) (h1 : ∀ u ∈ qds l, u.oneCell' = true) : Src P 4 S v l.length (qds l) w := by
  obtain ⟨ao, cap, rfl, h2, h3, h4⟩ := h
  by_cases h0 : 0 < l.length
  · obtain ⟨g, o, rfl, hg, hc⟩ := h4 h0
    refine Src.ofSlice _ T.und _ _ _ (qds l) (qds_length l) (fun j u hu => ?_) h1
    have hj : j < l.length * 4 := by rw [← qds_length]; exact (List.getElem?_eq_some_iff.1 hu).1
    obtain ⟨t, ht⟩ : ∃ t, l[j / 4]? = some t := ⟨_, List.getElem?_eq_getElem (by omega)⟩
    obtain ⟨c1, c2, c3, c4⟩ := hc _ t ht
    obtain ⟨g1, g2, g3, g4⟩ := qds_get l _ t ht
    rw [Addr.add_mid]
    have hm : j % 4 = 0 ∨ j % 4 = 1 ∨ j % 4 = 2 ∨ j % 4 = 3 := by omega
    rcases hm with hm | hm | hm | hm
    · rw [show j / 4 * 4 = j by omega] at c1 g1
      rw [c1]; exact g1.symm.trans hu
    · rw [show o + j / 4 * 4 + 1 = o + j by omega] at c2
      rw [show j / 4 * 4 + 1 = j by omega] at g2
      rw [c2]; exact g2.symm.trans hu
    · rw [show o + j / 4 * 4 + 2 = o + j by omega] at c3
      rw [show j / 4 * 4 + 2 = j by omega] at g3
      rw [c3]; exact g3.symm.trans hu
    · rw [show o + j / 4 * 4 + 3 = o + j by omega] at c4
      rw [show j / 4 * 4 + 3 = j by omega] at g4
      rw [c4]; exact g4.symm.trans hu
  · obtain rfl : l = [] := by cases l with
      | nil => rfl
      | cons a r => simp at h0
    cases ao with
    | none => exact Src.ofNil _ T.und _
    | some a => exact Src.ofSlice _ T.und a _ _ [] rfl (fun j u hu => by simp at hu) (by simp)
/-- append of a row of structs. -/
theorem wpList_qd {P : Program} {S E : TypeId} {z : Value} {eb : Nat} (T : Elem4 P S E z eb) {ops : Array Oper} {rest : List Oper} {o : Oper} {a : Act} {w : World} {Q : Exit → Act → World → Prop} (hgd : o.guard = none) (s x : Operand)
    (ho : o.op = .call { callee := .builtin .append, args := #[s, x], argTypes := #[S, S] })
    {B : Nat} {w0 : World} {v : Value} {l : List QV} (hv : a.eval s = v) (H : OQ E B w0 w v l) {vx : Value} {m : List QV} (hx : a.eval x = vx) (L : QRd w vx m) (h1 : ∀ u ∈ qds m, u.oneCell' = true) (hl : (l.length + m.length) * eb ≤ 140737488355328) (hl2 : l.length + m.length ≤ 140737488355328)
    (h : ∀ (ao : Option Addr) (n cap : Nat) (w' : World), n = l.length + m.length → OQ E B w0 w' (.slice ao n cap) (l ++ m) → w.grownBy w' v.ownBlock → wpList P ops Q rest (a.put o.dst (.slice ao n cap)) w') :
    wpList P ops Q (o :: rest) a w := by
  obtain ⟨i0, hi, hz0, hz1, hz2⟩ := info_parts T.info
  refine wpList_append_src _ hgd s x S S ho B E i0 z 4 eb T.und hi hz0 hz1 hz2 T.four (by decide) v l.length (qds l) hv H.own vx m.length (qds m) hx (L.src T h1) (by unfold maxLen; omega) (by omega) H.size ?_
  intro v2 w2 hown hg _ _
  have H2 := H.app (m := m) hown rfl hg
  obtain ⟨ao, cap, rfl⟩ := own_shape hown
  exact h ao _ cap w2 rfl H2 hg
theorem qrd_new {w : World} {t : QV} {E : TypeId} {m : Nat × Nat} : QRd (w.alloc (.cells #[t.a, t.b, t.c, t.d] E m)) (.slice (some ⟨w.heap.size, 0, none⟩) 1 1) [t] := by
  refine ⟨_, _, rfl, Nat.le_refl _, by simp, fun _ => ⟨_, _, rfl, by simp, fun i u hi => ?_⟩⟩
  have : i = 0 := by have := (List.getElem?_eq_some_iff.1 hi).1; simp at this; omega
  subst this
  simp only [List.getElem?_cons_zero, Option.some.injEq] at hi
  subst hi
  have hb := heap_alloc_new w (.cells #[t.a, t.b, t.c, t.d] E m)
  have c0 := World.news_of_block hb 0 t.a rfl
  have c1 := World.news_of_block hb 1 t.b rfl
  have c2 := World.news_of_block hb 2 t.c rfl
  have c3 := World.news_of_block hb 3 t.d rfl
  rw [Addr.add_mid] at c0 c1 c2 c3
  exact ⟨c0, c1, c2, c3⟩
end Go.Proofs.Yteceljhhhbmemaa

/- A list of operations of a disk that came in, opened; a slice of bools. No condition. -/
namespace Go.Proofs.Yteceljhhhbmemaa
open Go.RowKit Go.ChangeShapes Go.WideShapes

theorem wf_d64 {n : Int} (h : (Lit.int .i64 n).wf = true) : R64 n := by
  simpa [Lit.wf, IntKind.min, IntKind.max, IntKind.signed, IntKind.bits] using h
/-- An operation as it came in: its cells and what they read as. -/
structure OpX where
  k : Int
  s : Int
  vb : Value
  vk : Value
  l : List Int
  kp : List Bool
def OpX.q (x : OpX) : QV := ⟨.int .i64 x.k, .int .i64 x.s, x.vb, x.vk⟩
def OpX.rd (w : World) (x : OpX) : Prop := R64 x.k ∧ R64 x.s ∧ Rd w x.vb (by8 x.l) ∧ Rd w x.vk (bls x.kp)
/-- The operations that came in. -/
def OpsIn (w : World) (a : Option Addr) (len cap : Nat) (l : List OpX) : Prop := l.length = len ∧ QRd w (.slice a len cap) (l.map OpX.q) ∧ ∀ t ∈ l, t.rd w
theorem OpX.rd_at {w w' : World} {x : OpX} (h : x.rd w) (hb : Below w.heap.size w w') : x.rd w' := ⟨h.1, h.2.1, h.2.2.1.at hb, h.2.2.2.at hb⟩
theorem OpsIn.at {w w' : World} {a : Option Addr} {len cap : Nat} {l : List OpX} (h : OpsIn w a len cap l) (hb : Below w.heap.size w w') : OpsIn w' a len cap l := ⟨h.1, h.2.1.at hb, fun t ht => OpX.rd_at (h.2.2 t ht) hb⟩
theorem Try.cellsOp : Try.prog.cellsOf 37 = 4 := by kernel_rfl
theorem Try.cellsIntD : Try.prog.cellsOf 3 = 1 := by kernel_rfl
theorem Try.cellsBysD : Try.prog.cellsOf 32 = 1 := by kernel_rfl
theorem Try.cellsBosD : Try.prog.cellsOf 35 = 1 := by kernel_rfl
theorem plain_addD (a o j : Nat) : (⟨a, o, none⟩ : Addr).add j = ⟨a, o + j, none⟩ := by unfold Addr.add; split <;> simp_all
theorem four_ofD {α : Type} : ∀ {l : List α}, l.length = 4 → ∃ a b c d, l = [a, b, c, d]
  | [a, b, c, d], _ => ⟨a, b, c, d, rfl⟩
set_option maxRecDepth 100000 in
theorem open_by8 {H : Type} {enc : TypeId × Value → H} {w : World} {fuel : Nat} {v : Value} {x : DataW H × List MemPlace} (h : DataW.trod enc Try.prog w 0 (fun _ => true) true fuel 32 [v] = some x) :
    ∃ l : List Int, Rd w v (by8 l) := by
  rcases open_ints Try.underlying32 Try.underlying5 (by kernel_rfl) h with ⟨e, _⟩ | ⟨a, len, cap, zs, e, _, hl, hm, hz, _, hcell, hwz⟩
  · simp only [List.cons.injEq, and_true] at e
    subst e
    exact ⟨[], ⟨none, 0, rfl, Nat.le_refl _, by omega, fun h => by simp [by8] at h⟩⟩
  · simp only [List.cons.injEq, and_true] at e
    subst e
    obtain ⟨l, hl2, _, hr⟩ := (show IsRow .u8 w (some a) len cap zs from .inr ⟨_, rfl, hl, hm, by simpa using hz, hcell, hwz⟩).rd
    exact ⟨l, hr⟩
set_option maxRecDepth 100000 in
theorem open_bls {H : Type} {enc : TypeId × Value → H} {w : World} {fuel : Nat} {v : Value} {x : DataW H × List MemPlace} (h : DataW.trod enc Try.prog w 0 (fun _ => true) true fuel 35 [v] = some x) :
    ∃ l : List Bool, Rd w v (bls l) := by
  rcases Go.Deep.open_bools Try.underlying35 Try.underlying4 (by kernel_rfl) h with ⟨e, _⟩ | ⟨a, len, cap, B, e, _, hl, hm, _, hcell⟩
  · simp only [List.cons.injEq, and_true] at e
    subst e
    exact ⟨[], ⟨none, 0, rfl, Nat.le_refl _, by omega, fun h => by simp [bls] at h⟩⟩
  · simp only [List.cons.injEq, and_true] at e
    subst e
    unfold maxLen at hm
    have hll : (bls ((List.range len).map B)).length = len := by simp [bls]
    refine ⟨(List.range len).map B, some a, cap, by rw [hll], by rw [hll]; exact hl, by omega, fun h0 => ?_⟩
    rw [hll] at h0
    have h6 := hcell 0 (by omega)
    rw [show a.add 0 = a by rfl] at h6
    have hx := spot_none h6
    refine ⟨a.block, a.off, by rw [← hx], World.block_lt_of_cell? w _ h6, fun j u hu => ?_⟩
    have hj : j < len := by
      have := (List.getElem?_eq_some_iff.1 hu).1
      rw [hll] at this; exact this
    have h7 := hcell j (by omega)
    rw [hx, Addr.add_mid] at h7
    rw [h7, ← hu]
    simp [bls, hj]
set_option maxRecDepth 100000 in
theorem open_op {H : Type} {enc : TypeId × Value → H} {w : World} {n : Nat} {cs : List Value} {y : DataW H × List MemPlace} (h : DataW.trod enc Try.prog w 0 (fun _ => true) true n 37 cs = some y) :
    ∃ x : OpX, cs = x.q.cs ∧ x.rd w := by
  obtain ⟨y0, y1, y2, y3, m, _, hl, h0, h1, h2, h3⟩ := Go.Joins.trod_struct4 Try.underlying37 h
  rw [Try.cellsOp] at hl
  obtain ⟨v0, v1, v2, v3, rfl⟩ := four_ofD hl
  clear hl
  simp only [Try.cellsIntD, Try.cellsBysD, Try.cellsBosD, List.drop_zero, List.drop_succ_cons, List.take_succ_cons, List.take_zero] at h0 h1 h2 h3
  obtain ⟨k0, e0, _, q0⟩ := DataW.trod_int Try.underlying3 h0
  obtain ⟨k1, e1, _, q1⟩ := DataW.trod_int Try.underlying3 h1
  obtain ⟨l2, r2⟩ := open_by8 h2
  obtain ⟨l3, r3⟩ := open_bls h3
  simp only [List.cons.injEq, and_true] at e0 e1
  subst e0 e1
  exact ⟨⟨k0, k1, v2, v3, l2, l3⟩, rfl, wf_d64 q0, wf_d64 q1, r2, r3⟩
theorem open_ops {H : Type} {enc : TypeId × Value → H} {w : World} {fuel len cap : Nat} {a : Option Addr} {x : DataW H × List MemPlace} (h : DataW.trod enc Try.prog w 0 (fun _ => true) true fuel 22 [.slice a len cap] = some x) :
    ∃ l, OpsIn w a len cap l := by
  rcases Go.Deep.open_slice Try.underlying22 h with ⟨e, _⟩ | ⟨ad, len', cap', m, n, D, Pl, e, _, hlc, hcm, hm, _, hel⟩
  · simp only [List.cons.injEq, Value.slice.injEq, and_true] at e
    obtain ⟨rfl, rfl, rfl⟩ := e
    exact ⟨[], rfl, qrd_nil _, by simp⟩
  · simp only [List.cons.injEq, Value.slice.injEq, and_true] at e
    obtain ⟨rfl, rfl, rfl⟩ := e
    simp only [if_true] at hm
    subst hm
    unfold maxLen at hcm
    by_cases h0 : len = 0
    · subst h0
      exact ⟨[], rfl, ⟨_, _, rfl, by simp, by omega, fun h => by simp at h⟩, by simp⟩
    · have hex : ∀ i, i < len → ∃ y : OpX, (∀ j, j < 4 → w.cell? ((ad.add (i * 4)).add j) = y.q.cs[j]?) ∧ y.rd w := by
        intro i hi
        obtain ⟨cs', h1, h2⟩ := hel i (by omega)
        rw [Try.cellsOp] at h1
        obtain ⟨y, hy, r⟩ := open_op h2
        obtain ⟨_, _, hc⟩ := World.cells?_some h1
        exact ⟨y, fun j hj => by rw [hc j hj, hy], r⟩
      have hsp : ad.spot = none := by
        obtain ⟨y, hc, _⟩ := hex 0 (by omega)
        have := hc 0 (by omega)
        simpa [Addr.add] using World.cell?_spot (w := w) (a := (ad.add (0 * 4)).add 0) this
      obtain ⟨b, o, sp⟩ := ad
      simp only at hsp
      subst hsp
      haveI : Inhabited OpX := ⟨⟨0, 0, .slice none 0 0, .slice none 0 0, [], []⟩⟩
      obtain ⟨f, hf⟩ := Go.Deep.choose_lt hex
      have hget : ∀ i x, ((List.range len).map f)[i]? = some x → i < len ∧ x = f i := by
        intro i x hx
        simp only [List.getElem?_map] at hx
        rcases hr : (List.range len)[i]? with _ | q
        · rw [hr] at hx; cases hx
        · rw [hr] at hx
          obtain ⟨h1, h2⟩ := List.getElem?_eq_some_iff.1 hr
          simp at h1 h2
          subst h2
          simp at hx
          exact ⟨h1, hx.symm⟩
      have hcell : ∀ i j, i < len → j < 4 → w.cell? ⟨b, o + i * 4 + j, none⟩ = (f i).q.cs[j]? := by
        intro i j hi hj
        have := (hf i hi).1 j hj
        rwa [plain_addD, plain_addD] at this
      have hll : (((List.range len).map f).map OpX.q).length = len := by simp
      refine ⟨(List.range len).map f, by simp, ⟨_, m, by rw [hll], by rw [hll]; omega, by omega, fun _ => ⟨b, o, rfl, ?_, fun i x hx => ?_⟩⟩, fun x hx => ?_⟩
      · exact World.block_lt_of_cell? w _ (hcell 0 0 (by omega) (by omega))
      · rw [List.getElem?_map, Option.map_eq_some_iff] at hx
        obtain ⟨y, hy, rfl⟩ := hx
        obtain ⟨h1, rfl⟩ := hget i y hy
        exact ⟨hcell i 0 h1 (by omega), hcell i 1 h1 (by omega), hcell i 2 h1 (by omega), hcell i 3 h1 (by omega)⟩
      · obtain ⟨i, hi⟩ := List.getElem?_of_mem hx
        obtain ⟨h1, rfl⟩ := hget i x hi
        exact (hf i h1).2
end Go.Proofs.Yteceljhhhbmemaa

/- What the laws ask of the program's disk (an interface, filled by the texts on package disk). A disk in a law's run. Bounds on sizes alone. -/
namespace Go.Proofs.Yteceljhhhbmemaa
open Go.RowKit

/-- The program's disk: a predicate 'the disk in block b, all of it in S, is M', and what each function gives. -/
structure PI where
  DS : (Nat → Prop) → World → Nat → DM → Prop
  keep : ∀ {S : Nat → Prop} {w w' : World} {b : Nat} {M : DM}, DS S w b M → Keeps S w w' → DS S w' b M
  mono : ∀ {S T : Nat → Prop} {w : World} {b : Nat} {M : DM}, DS S w b M → (∀ k, S k → T k) → DS T w b M
  lt : ∀ {S : Nat → Prop} {w : World} {b : Nat} {M : DM}, DS S w b M → DS (fun k => S k ∧ k < w.heap.size) w b M
  ok : ∀ {S : Nat → Prop} {w : World} {b : Nat} {M : DM}, DS S w b M → M.Ok
  newY : ∀ (n sz : Nat), 1 ≤ n → n ≤ 65536 → 16 ≤ sz → sz ≤ 4096 → ∀ w, Calls Try.prog 11 #[.int .i64 n, .int .i64 sz] w fun e w' => ∃ b, e = .returned (.tuple #[.pointer (some ⟨b, 0, none⟩), .int .i64 0]) ∧ DS (fun k => w.heap.size ≤ k ∧ k < w'.heap.size) w' b (newF n sz) ∧ Below w.heap.size w w'
  newN : ∀ (n sz : Int), R64 n → R64 sz → ¬((1 ≤ n ∧ n ≤ 65536) ∧ 16 ≤ sz ∧ sz ≤ 4096) → ∀ w, Calls Try.prog 11 #[.int .i64 n, .int .i64 sz] w fun e w' => e = .returned (.tuple #[.pointer none, .int .i64 1]) ∧ Below w.heap.size w w'
  sectors : ∀ {S : Nat → Prop} {w : World} {b : Nat} {M : DM}, DS S w b M → Calls Try.prog 12 #[.pointer (some ⟨b, 0, none⟩)] w fun e w' => e = .returned (.int .i64 M.secs.length) ∧ Below w.heap.size w w'
  size : ∀ {S : Nat → Prop} {w : World} {b : Nat} {M : DM}, DS S w b M → Calls Try.prog 13 #[.pointer (some ⟨b, 0, none⟩)] w fun e w' => e = .returned (.int .i64 M.sz) ∧ Below w.heap.size w w'
  down : ∀ {S : Nat → Prop} {w : World} {b : Nat} {M : DM}, DS S w b M → Calls Try.prog 17 #[.pointer (some ⟨b, 0, none⟩)] w fun e w' => e = .returned (.bool M.off) ∧ Below w.heap.size w w'
  cached : ∀ {S : Nat → Prop} {w : World} {b : Nat} {M : DM}, DS S w b M → Calls Try.prog 18 #[.pointer (some ⟨b, 0, none⟩)] w fun e w' => e = .returned (.int .i64 M.cache.length) ∧ Below w.heap.size w w'
  downQ : ∀ {S : Nat → Prop} {w : World} {b : Nat} {M : DM}, DS S w b M → Calls Try.prog 17 #[.pointer (some ⟨b, 0, none⟩)] w fun e w' => e = .returned (.bool M.off) ∧ ∃ m, w' = w.drewN m
  cachedQ : ∀ {S : Nat → Prop} {w : World} {b : Nat} {M : DM}, DS S w b M → Calls Try.prog 18 #[.pointer (some ⟨b, 0, none⟩)] w fun e w' => e = .returned (.int .i64 M.cache.length) ∧ ∃ m, w' = w.drewN m
  read : ∀ {S : Nat → Prop} {w : World} {b : Nat} {M : DM} (s : Int), R64 s → M.cache.length ≤ 1000000 → DS S w b M → Calls Try.prog 19 #[.pointer (some ⟨b, 0, none⟩), .int .i64 s] w fun e w' => RdQ (readF M s).1 (readF M s).2 w e w' ∧ ∀ x n c, e = .returned (.tuple #[.slice x n c, .int .i64 (readF M s).2]) → w'.ownsRow w.heap.size 5 1 (.slice x n c) n (by8 (readF M s).1)
  write : ∀ {S : Nat → Prop} {w : World} {b : Nat} {M : DM} (U : Nat → Prop) (s : Int), R64 s → ∀ (bo : Option Addr) (bn bc : Nat) (l : List Int), M.cache.length < 1000000 → CR U w (.slice bo bn bc) l → (∀ k, U k → ¬ S k) → DS S w b M → Calls Try.prog 22 #[.pointer (some ⟨b, 0, none⟩), .int .i64 s, .slice bo bn bc] w fun e w' => e = .returned (.int .i64 (writeF M s l).1) ∧ DS (Nw S w w') w' b (writeF M s l).2 ∧ Kept S w w'
  sync : ∀ {S : Nat → Prop} {w : World} {b : Nat} {M : DM}, M.cache.length ≤ 1000000 → DS S w b M → Calls Try.prog 23 #[.pointer (some ⟨b, 0, none⟩)] w fun e w' => e = .returned (.int .i64 (syncF M).1) ∧ DS (Nw S w w') w' b (syncF M).2 ∧ Kept S w w'
  fail : ∀ {S : Nat → Prop} {w : World} {b : Nat} {M : DM} (n : Int), R64 n → DS S w b M → Calls Try.prog 24 #[.pointer (some ⟨b, 0, none⟩), .int .i64 n] w fun e w' => e = .returned (.tuple #[]) ∧ DS (Nw S w w') w' b (failF M n) ∧ Kept S w w'
  crash : ∀ {S : Nat → Prop} {w : World} {b : Nat} {M : DM} (U : Nat → Prop) (ko : Option Addr) (kn kc : Nat) (keep : List Bool), M.cache.length ≤ 1000000 → Rd w (.slice ko kn kc) (bls keep) ∧ (0 < (bls keep).length → In U (.slice ko kn kc)) → (∀ k, U k → ¬ S k) → DS S w b M → Calls Try.prog 25 #[.pointer (some ⟨b, 0, none⟩), .slice ko kn kc] w fun e w' => e = .returned (.tuple #[]) ∧ DS (Nw S w w') w' b (crashF M keep) ∧ Kept S w w'
/-- A disk of a law's run: all of it lies between B and c. -/
def Lv (I : PI) (B c : Nat) (w : World) (b : Nat) (M : DM) : Prop := ∃ S, I.DS S w b M ∧ ∀ k, S k → B ≤ k ∧ k < c
section
variable {I : PI} {B c : Nat} {w w' : World} {b : Nat} {M : DM}
theorem Lv.bel (h : Lv I B c w b M) (hb : Below c w w') : Lv I B c w' b M := by
  obtain ⟨S, h1, h2⟩ := h
  exact ⟨S, I.keep h1 ⟨hb.size, fun k hk _ => hb.block k (h2 k hk).2⟩, h2⟩
theorem Lv.up (h : Lv I B c w b M) {c2 : Nat} (hc : c ≤ c2) : Lv I B c2 w b M := by
  obtain ⟨S, h1, h2⟩ := h
  exact ⟨S, h1, fun k hk => ⟨(h2 k hk).1, by have := (h2 k hk).2; omega⟩⟩
theorem lv_nw {S : Nat → Prop} {M2 : DM} (h2 : ∀ k, S k → B ≤ k ∧ k < c) (hB : B ≤ w.heap.size) (d : I.DS (Nw S w w') w' b M2) (k : Kept S w w') : Lv I B w'.heap.size w' b M2 ∧ Below B w w' :=
  ⟨⟨_, I.lt d, fun q hq => ⟨by rcases hq.1 with h | h; exact (h2 q h).1; have := h.1; omega, hq.2⟩⟩, k.below hB fun q hq => (h2 q hq).1⟩
/-- The rows that Write and Crash may be given: from before the run, or behind the disk. -/
abbrev Arg (B c : Nat) : Nat → Prop := fun k => k < B ∨ c ≤ k
theorem Lv.write (h : Lv I B c w b M) (hB : B ≤ w.heap.size) (s : Int) (hs : R64 s) {bo : Option Addr} {bn bc : Nat} {l : List Int} (hc : M.cache.length < 1000000) (hin : CR (Arg B c) w (.slice bo bn bc) l) :
    Calls Try.prog 22 #[.pointer (some ⟨b, 0, none⟩), .int .i64 s, .slice bo bn bc] w fun e w' => e = .returned (.int .i64 (writeF M s l).1) ∧ Lv I B w'.heap.size w' b (writeF M s l).2 ∧ Below B w w' := by
  obtain ⟨S, h1, h2⟩ := h
  exact (I.write (Arg B c) s hs bo bn bc l hc hin (fun k hk hS => by have := h2 k hS; rcases hk with h | h <;> omega) h1).mono fun e w' ⟨q1, q2, q3⟩ => ⟨q1, lv_nw h2 hB q2 q3⟩
theorem Lv.crash (h : Lv I B c w b M) (hB : B ≤ w.heap.size) {ko : Option Addr} {kn kc : Nat} {keep : List Bool} (hc : M.cache.length ≤ 1000000) (hin : Rd w (.slice ko kn kc) (bls keep) ∧ (0 < (bls keep).length → In (Arg B c) (.slice ko kn kc))) :
    Calls Try.prog 25 #[.pointer (some ⟨b, 0, none⟩), .slice ko kn kc] w fun e w' => e = .returned (.tuple #[]) ∧ Lv I B w'.heap.size w' b (crashF M keep) ∧ Below B w w' := by
  obtain ⟨S, h1, h2⟩ := h
  exact (I.crash (Arg B c) ko kn kc keep hc hin (fun k hk hS => by have := h2 k hS; rcases hk with h | h <;> omega) h1).mono fun e w' ⟨q1, q2, q3⟩ => ⟨q1, lv_nw h2 hB q2 q3⟩
theorem Lv.sync (h : Lv I B c w b M) (hB : B ≤ w.heap.size) (hc : M.cache.length ≤ 1000000) :
    Calls Try.prog 23 #[.pointer (some ⟨b, 0, none⟩)] w fun e w' => e = .returned (.int .i64 (syncF M).1) ∧ Lv I B w'.heap.size w' b (syncF M).2 ∧ Below B w w' := by
  obtain ⟨S, h1, h2⟩ := h
  exact (I.sync hc h1).mono fun e w' ⟨q1, q2, q3⟩ => ⟨q1, lv_nw h2 hB q2 q3⟩
theorem Lv.fail (h : Lv I B c w b M) (hB : B ≤ w.heap.size) (n : Int) (hn : R64 n) :
    Calls Try.prog 24 #[.pointer (some ⟨b, 0, none⟩), .int .i64 n] w fun e w' => e = .returned (.tuple #[]) ∧ Lv I B w'.heap.size w' b (failF M n) ∧ Below B w w' := by
  obtain ⟨S, h1, h2⟩ := h
  exact (I.fail n hn h1).mono fun e w' ⟨q1, q2, q3⟩ => ⟨q1, lv_nw h2 hB q2 q3⟩
end
/-- The content of a sector that begins with c. -/
def blk (c : Int) : List Int := c :: List.replicate 15 0
/-- The first byte of a sector, or 0. -/
def firstF (M : DM) (s : Int) : Int := if (readF M s).2 ≠ 0 then 0 else (readF M s).1.headD 0
set_option maxRecDepth 100000 in
set_option maxHeartbeats 1600000 in
theorem block_any (c : Int) (w : World) : Calls Try.prog 26 #[.int .u8 c] w fun e w' => ∃ g, e = .returned (.slice (some ⟨g, 0, none⟩) 16 16) ∧ CR (fun k => w.heap.size ≤ k) w' (.slice (some ⟨g, 0, none⟩) 16 16) (blk c) ∧ Below w.heap.size w w' := by
  have MK : ∀ w : World, (Instr.makeSlice 32 (.int .i64 16) (.int .i64 16)).run Try.prog w = .ok (.slice (some ⟨w.heap.size, 0, none⟩) 16 16) (w.alloc (.cells (List.replicate 16 (.int .u8 0)).toArray 5)) := fun w => by
    have h := run_make_row' (P := Try.prog) 32 5 (.int .u8 0) 1 u8E.und u8E.info rfl .i64 .i64 16 (by omega) (by omega) w
    rw [show madeCells #[Value.int .u8 0] 16 = (List.replicate 16 (.int .u8 0)).toArray by rw [← Array.toList_inj]; simp [toList_madeCells_one]] at h
    exact h
  have HN := heap_alloc_new w (.cells (List.replicate 16 (.int .u8 0)).toArray 5)
  have f0 := fr_blk HN 0
  have c0 := cell_blk (j := 0) HN rfl
  clear HN
  go_enter Try.func26, Try.ntmps26
  go_wp2
  go_ret
  exact ⟨w.heap.size, rfl, ⟨rd_new (l := by8 (blk c)) rfl rfl (by simp [by8, blk]), fun _ a n cc e => by cases e; exact Nat.le_refl _⟩, bel_alloc w _⟩
set_option maxRecDepth 100000 in
set_option maxHeartbeats 1600000 in
theorem first_any {I : PI} {S : Nat → Prop} {w : World} {b : Nat} {M : DM} (s : Int) (hs : R64 s) (hc : M.cache.length ≤ 1000000) (h : I.DS S w b M) : Calls Try.prog 27 #[.pointer (some ⟨b, 0, none⟩), .int .i64 s] w fun e w' => e = .returned (.int .u8 (firstF M s)) ∧ Below w.heap.size w w' := by
  have CR0 := hid_of (I.read s hs hc h)
  obtain ⟨l, hl⟩ : ∃ l, l = (readF M s).1 := ⟨_, rfl⟩
  obtain ⟨er, he⟩ : ∃ er, er = (readF M s).2 := ⟨_, rfl⟩
  have HF : Hid (firstF M s = if er ≠ 0 then 0 else l.headD 0) := hid_of (by rw [firstF, ← hl, ← he])
  rw [← hl, ← he] at CR0
  rw [HF.out]
  clear h hl he
  by_cases h0 : er = 0
  · subst h0
    cases l with
    | nil =>
      go_enter Try.func27, Try.ntmps27
      go_wp2_with (go_at_call 19; ((with_reducible refine (CR0.out).mono ?_); (rintro e w1 ⟨⟨x, n, c, rfl, q1, q2⟩, _⟩)); obtain rfl : n = 0 := (rd_cut q1).1; have B1 := hid_of q2; clear q1 q2)
      go_ret
      exact ⟨rfl, B1.out⟩
    | cons y r =>
      go_enter Try.func27, Try.ntmps27
      go_wp2_with (go_at_call 19; ((with_reducible refine (CR0.out).mono ?_); (rintro e w1 ⟨⟨x, n, c, rfl, q1, q2⟩, _⟩)); obtain ⟨g, o, rfl, k0⟩ := rd_at q1 (i := 0) (t := .int .u8 y) rfl; rw [Nat.add_zero] at k0; obtain rfl : n = r.length + 1 := (by have := (rd_cut q1).1; simpa [by8] using this); have hc2 := (rd_cut q1).2; have dn : (((r.length + 1 : Nat) : Int) == 0) = false := beq_eq_false_iff_ne.2 (by omega); have dn2 : ((r.length : Int) + 1 == 0) = false := beq_eq_false_iff_ne.2 (by omega); have B1 := hid_of q2; clear q1 q2)
      go_ret
      exact ⟨rfl, B1.out⟩
  · have e0 : (er == 0) = false := beq_eq_false_iff_ne.2 h0
    have e1 : (er != 0) = true := bne_iff_ne.2 h0
    have HE : Hid ((if er ≠ 0 then (0 : Int) else l.headD 0) = 0) := hid_of (if_pos h0)
    rw [HE.out]
    go_enter Try.func27, Try.ntmps27
    go_wp2_with (go_at_call 19; ((with_reducible refine (CR0.out).mono ?_); (rintro e w1 ⟨⟨x, n, c, rfl, q1, q2⟩, _⟩)); have B1 := hid_of q2; clear q1 q2)
    go_ret
    exact ⟨rfl, B1.out⟩
end Go.Proofs.Yteceljhhhbmemaa

/- The program's disk: New; the interface that the laws ask, filled. Bounds on sizes alone. -/
namespace Go.Proofs.Yteceljhhhbmemaa
open Go.RowKit Go.Maps
set_option maxRecDepth 100000
set_option maxHeartbeats 3200000
namespace Dg
theorem dk_start (w : World) (n sz : Nat) (hn : n ≤ 65536) (hz : sz ≤ 4096) {W : World} (e0 : W.heap[w.heap.size]? = some (.map #[] 0)) (e1 : W.heap[w.heap.size + 1]? = some (.map #[] 0)) (e2 : W.heap[w.heap.size + 2]? = some (.cells [.int .i64 n, .int .i64 sz, .map (some w.heap.size), .slice none 0 0, .map (some (w.heap.size + 1)), .bool false, .bool false, .int .i64 0].toArray 59 (0, 0))) :
    DK (fun k => w.heap.size ≤ k) W (w.heap.size + 2) (newF n sz) w.heap.size (w.heap.size + 1) (.slice none 0 0) (.map []) (.map []) (fun _ => none) false 0 [] := by
  have hl : (newF n sz).secs.length = n := by simp [newF]
  have hm : ∀ b, W.heap[b]? = some (.map #[] 0) → W.ownsMap Try.prog 3 (RS sz) b 0 (.map []) := fun b hb => by
    obtain ⟨es, clock, h1, h2, h3, h4⟩ := World.ownsMap_made (H := Unit) w Try.prog 3 (RS sz)
    rw [(heap_alloc_new w (.map #[] 0))] at h1
    cases h1
    exact ⟨_, _, hb, h2, h3, h4⟩
  have hr : ∀ Q b, W.heap[b]? = some (.map #[] 0) → MapR Q W sz n b (.map []) (fun _ => none) := fun Q b hb =>
    ⟨hm b hb, fun s _ => rfl, fun s l v ps _ hf => (by cases hf), fun k hk => (by cases hk)⟩
  refine ⟨by show w.heap.size ≤ _; omega, ⟨Nat.le_refl _, by omega⟩, ⟨by show w.heap.size ≤ _; omega, by omega, by omega⟩, by rw [hl]; exact e2, by rw [hl]; exact hr _ _ e0, fun s hs => ?_, by rw [hl]; exact hr _ _ e1, World.ownsRow_nil _ _ _ _, fun k hk => by simp [Value.ownBlock] at hk, fun i p q hp => by simp at hp, newF_ok n sz hn hz, Or.inr ⟨rfl, rfl⟩⟩
  rw [hl] at hs
  simp [newF, hs]
theorem new_yes (n sz : Nat) (h1 : 1 ≤ n) (h2 : n ≤ 65536) (h3 : 16 ≤ sz) (h4 : sz ≤ 4096) (w : World) : Calls Try.prog 11 #[.int .i64 n, .int .i64 sz] w fun e w' => ∃ b, e = .returned (.tuple #[.pointer (some ⟨b, 0, none⟩), .int .i64 0]) ∧ DS (fun k => w.heap.size ≤ k ∧ k < w'.heap.size) w' b (newF n sz) ∧ Below w.heap.size w w' := by
  have d0 : decide ((n : Int) < 1) = false := by simp; omega
  have d1 : decide ((n : Int) > 65536) = false := by simp; omega
  have d2 : decide ((65536 : Int) < (n : Int)) = false := by simp; omega
  have d3 : decide ((sz : Int) < 16) = false := by simp; omega
  have d4 : decide ((sz : Int) > 4096) = false := by simp; omega
  have d5 : decide ((4096 : Int) < (sz : Int)) = false := by simp; omega
  have hmm := @run_makeMap Try.prog
  go_enter Try.func11, Try.ntmps11
  go_wp2
  go_ret2
  have b0 := bel_alloc w (.map #[] 0)
  have b1 := bel_alloc (w.alloc (.map #[] 0)) (.map #[] 0)
  have b2 := bel_alloc ((w.alloc (.map #[] 0)).alloc (.map #[] 0)) (.cells #[.int .i64 n, .int .i64 sz, .map (some w.heap.size), .slice none 0 0, .map (some (w.heap.size + 1)), .bool false, .bool false, .int .i64 0] 59)
  have n0 := heap_alloc_new w (.map #[] 0)
  have n1 := heap_alloc_new (w.alloc (.map #[] 0)) (.map #[] 0)
  have n2 := heap_alloc_new ((w.alloc (.map #[] 0)).alloc (.map #[] 0)) (.cells #[.int .i64 n, .int .i64 sz, .map (some w.heap.size), .slice none 0 0, .map (some (w.heap.size + 1)), .bool false, .bool false, .int .i64 0] 59)
  have s1 : (w.alloc (.map #[] 0)).heap.size = w.heap.size + 1 := by simp
  have s2 : ((w.alloc (.map #[] 0)).alloc (.map #[] 0)).heap.size = w.heap.size + 2 := by simp
  rw [s1] at n1 b1
  rw [s2] at n2 b2
  have D := dk_start w n sz h2 h4 ((b2.block _ (by omega)).trans ((b1.block _ (by omega)).trans n0)) ((b2.block _ (by omega)).trans n1) n2
  exact ⟨w.heap.size + 2, rfl, ⟨_, _, _, _, _, _, _, _, _, D.lt⟩, b0.trans ((b1.mono (by omega)).trans (b2.mono (by omega)))⟩
theorem new_no (n sz : Int) (hn : R64 n) (hz : R64 sz) (h : ¬((1 ≤ n ∧ n ≤ 65536) ∧ 16 ≤ sz ∧ sz ≤ 4096)) (w : World) : Calls Try.prog 11 #[.int .i64 n, .int .i64 sz] w fun e w' => e = .returned (.tuple #[.pointer none, .int .i64 1]) ∧ Below w.heap.size w w' := by
  by_cases h1 : n < 1
  · have d0 : decide (n < 1) = true := by simpa using h1
    clear h
    go_enter Try.func11, Try.ntmps11
    go_wp2
    go_ret2
    exact ⟨rfl, Below.refl _ _⟩
  have d0 : decide (n < 1) = false := by simpa using h1
  by_cases h2 : n > 65536
  · have d1 : decide (n > 65536) = true := by simpa using h2
    have d2 : decide ((65536 : Int) < n) = true := by simpa using h2
    clear h
    go_enter Try.func11, Try.ntmps11
    go_wp2
    go_ret2
    exact ⟨rfl, Below.refl _ _⟩
  have d1 : decide (n > 65536) = false := by simpa using h2
  have d2 : decide ((65536 : Int) < n) = false := by simpa using h2
  by_cases h3 : sz < 16
  · have d3 : decide (sz < 16) = true := by simpa using h3
    clear h
    go_enter Try.func11, Try.ntmps11
    go_wp2
    go_ret2
    exact ⟨rfl, Below.refl _ _⟩
  have d3 : decide (sz < 16) = false := by simpa using h3
  have h4 : sz > 4096 := by omega
  have d4 : decide (sz > 4096) = true := by simpa using h4
  have d5 : decide ((4096 : Int) < sz) = true := by simpa using h4
  clear h
  go_enter Try.func11, Try.ntmps11
  go_wp2
  go_ret2
  exact ⟨rfl, Below.refl _ _⟩
end Dg
open Dg in
/-- The program's disk. -/
def IG : PI where
  DS := Dg.DS
  keep := fun ⟨_, _, _, _, _, _, _, _, _, h⟩ k => ⟨_, _, _, _, _, _, _, _, _, h.keep k⟩
  mono := fun ⟨_, _, _, _, _, _, _, _, _, h⟩ k => ⟨_, _, _, _, _, _, _, _, _, h.mono k⟩
  lt := fun ⟨_, _, _, _, _, _, _, _, _, h⟩ => ⟨_, _, _, _, _, _, _, _, _, h.lt⟩
  ok := fun ⟨_, _, _, _, _, _, _, _, _, h⟩ => h.ok
  newY := new_yes
  newN := fun n sz hn hz h w => new_no n sz hn hz h w
  sectors := fun ⟨_, _, _, _, _, _, _, _, _, h⟩ => sectors_any _ _ _ _ _ _ _ _ _ _ _ _ _ h
  size := fun ⟨_, _, _, _, _, _, _, _, _, h⟩ => size_any _ _ _ _ _ _ _ _ _ _ _ _ _ h
  down := fun ⟨_, _, _, _, _, _, _, _, _, h⟩ => (down_any _ _ _ _ _ _ _ _ _ _ _ _ _ h).mono fun e w' ⟨q1, m, q2⟩ => ⟨q1, by rw [q2]; exact bel_drewN (Below.refl _ _) _⟩
  cached := fun ⟨_, _, _, _, _, _, _, _, _, h⟩ => (cached_any _ _ _ _ _ _ _ _ _ _ _ _ _ h).mono fun e w' ⟨q1, m, q2⟩ => ⟨q1, by rw [q2]; exact bel_drewN (Below.refl _ _) _⟩
  downQ := fun ⟨_, _, _, _, _, _, _, _, _, h⟩ => down_any _ _ _ _ _ _ _ _ _ _ _ _ _ h
  cachedQ := fun ⟨_, _, _, _, _, _, _, _, _, h⟩ => cached_any _ _ _ _ _ _ _ _ _ _ _ _ _ h
  read := fun {S w b M} s hs hc ⟨bd, bl, vc, Dd, Dl, fd, cg, cd, ps, h⟩ => (read_any S w b M bd bl vc Dd Dl fd cg cd ps s hs h).mono fun e w' q => by
    rcases q with ⟨n, rfl, q1, q2⟩ | ⟨rfl, q1, q2, q3, q4⟩
    · rw [q1]
      refine ⟨⟨none, 0, 0, rfl, ⟨none, 0, rfl, Nat.le_refl _, by omega, fun h => by simp [by8] at h⟩, q2⟩, fun x m c e => ?_⟩
      simp only [Ending.returned.injEq, Value.tuple.injEq, Array.mk.injEq, List.cons.injEq, Value.slice.injEq] at e
      obtain ⟨⟨rfl, rfl, rfl⟩, _⟩ := e
      exact World.ownsRow_nil _ _ _ _
    · have hz := h.ok.sz
      have hrd : Rd w' (.slice (some ⟨w.heap.size, 0, none⟩) M.sz M.sz) (by8 (readF M s).1) := ⟨some ⟨w.heap.size, 0, none⟩, M.sz, by rw [by8_length, q2], by rw [by8_length, q2]; exact Nat.le_refl _, by omega, fun _ => ⟨_, 0, rfl, lt_of_block q3, fun i t ht => by rw [Nat.zero_add]; exact cell_blk q3 ht⟩⟩
      refine ⟨⟨_, _, _, by rw [q1], hrd, q4⟩, fun x m c e => ?_⟩
      simp only [Ending.returned.injEq, Value.tuple.injEq, Array.mk.injEq, List.cons.injEq, Value.slice.injEq] at e
      obtain ⟨⟨rfl, rfl, rfl⟩, _⟩ := e
      exact ⟨by rw [by8_length, q2, Nat.mul_one], .inr ⟨_, _, _, rfl, Nat.le_refl _, q3, Nat.le_refl _, by unfold maxLen; omega, by simp [by8_length, q2], by simp only [Nat.mul_one]; exact List.take_of_length_le (by rw [by8_length, q2]; exact Nat.le_refl _)⟩⟩
  write := fun {S w b M} U s hs bo bn bc l hc hin hU ⟨bd, bl, vc, Dd, Dl, fd, cg, cd, ps, h⟩ => write_any S w b M bd bl vc Dd Dl fd cg cd ps U s hs bo bn bc l hc hin hU h
  sync := fun {S w b M} _ ⟨bd, bl, vc, Dd, Dl, fd, cg, cd, ps, h⟩ => sync_any S w b M bd bl vc Dd Dl fd cg cd ps h
  fail := fun {S w b M} n hn ⟨bd, bl, vc, Dd, Dl, fd, cg, cd, ps, h⟩ => (fail_any S w b M bd bl vc Dd Dl fd cg cd ps n hn h).mono fun e w' ⟨q1, ⟨bd, bl, vc, Dd, Dl, fd, cg, cd, ps, q2⟩, q3⟩ => ⟨q1, ⟨_, _, _, _, _, _, _, _, _, q2.mono fun k hk => Or.inl hk⟩, q3.mono fun k e => by rw [e]; exact h.sb⟩
  crash := fun {S w b M} U ko kn kc keep hc hin hU ⟨bd, bl, vc, Dd, Dl, fd, cg, cd, ps, h⟩ => crash_any S w b M bd bl vc Dd Dl fd cg cd ps U ko kn kc keep hc hin hU h
end Go.Proofs.Yteceljhhhbmemaa

/- awake of the disk's laws, over the interface. Bounds on sizes alone. -/
namespace Go.Proofs.Yteceljhhhbmemaa
open Go.RowKit
def BoP (x : Bool) (w : World) (e : Ending) (w' : World) : Prop := e = .returned (.bool x) ∧ Below w.heap.size w w'
def aM0 : DM := newF 2 16
def aM1 : DM := (writeF aM0 0 (blk 7)).2
def aM2 : DM := (writeF aM1 0 (blk 8)).2
def aM3 : DM := crashF aM2 [true, false]
def aM4 : DM := failF aM3 1
def aM5 : DM := (writeF aM4 1 (blk 9)).2
def aM6 : DM := (syncF aM5).2
def aM7 : DM := crashF aM6 []
theorem r64_0 : R64 0 := ⟨by omega, by omega⟩
theorem r64_1 : R64 1 := ⟨by omega, by omega⟩
set_option maxRecDepth 100000 in
set_option maxHeartbeats 6400000 in
theorem awake_any (I : PI) (w : World) : Calls Try.prog 9 #[] w (BoP true w) := by
  have CN : Hid (Calls Try.prog 11 #[.int .i64 2, .int .i64 16] w fun e w' => ∃ b, e = .returned (.tuple #[.pointer (some ⟨b, 0, none⟩), .int .i64 0]) ∧ Lv I w.heap.size w'.heap.size w' b aM0 ∧ Below w.heap.size w w') := hid_of ((I.newY 2 16 (by omega) (by omega) (by omega) (by omega) w).mono fun e w' ⟨b, q1, q2, q3⟩ => ⟨b, q1, ⟨_, q2, fun k hk => hk⟩, q3⟩)
  have CB := hid_of (fun c X => block_any c X)
  have QS : Hid (∀ b c X, Lv I w.heap.size c X b aM0 → Calls Try.prog 12 #[.pointer (some ⟨b, 0, none⟩)] X fun e w' => e = .returned (.int .i64 2) ∧ Below X.heap.size X w') := hid_of (fun b c X ⟨S, h1, h2⟩ => I.sectors h1)
  have QZ : Hid (∀ b c X, Lv I w.heap.size c X b aM0 → Calls Try.prog 13 #[.pointer (some ⟨b, 0, none⟩)] X fun e w' => e = .returned (.int .i64 16) ∧ Below X.heap.size X w') := hid_of (fun b c X ⟨S, h1, h2⟩ => I.size h1)
  have W1 : Hid (∀ b c X g, Lv I w.heap.size c X b aM0 → w.heap.size ≤ X.heap.size → CR (fun k => c ≤ k) X (.slice (some ⟨g, 0, none⟩) 16 16) (blk 7) → Calls Try.prog 22 #[.pointer (some ⟨b, 0, none⟩), .int .i64 0, .slice (some ⟨g, 0, none⟩) 16 16] X fun e w' => e = .returned (.int .i64 0) ∧ Lv I w.heap.size w'.heap.size w' b aM1 ∧ Below w.heap.size X w') := hid_of (fun b c X g h hB hi => h.write hB 0 r64_0 (by decide) (hi.mono fun k hk => Or.inr hk))
  have W2 : Hid (∀ b c X g, Lv I w.heap.size c X b aM1 → w.heap.size ≤ X.heap.size → CR (fun k => c ≤ k) X (.slice (some ⟨g, 0, none⟩) 16 16) (blk 8) → Calls Try.prog 22 #[.pointer (some ⟨b, 0, none⟩), .int .i64 0, .slice (some ⟨g, 0, none⟩) 16 16] X fun e w' => e = .returned (.int .i64 0) ∧ Lv I w.heap.size w'.heap.size w' b aM2 ∧ Below w.heap.size X w') := hid_of (fun b c X g h hB hi => h.write hB 0 r64_0 (by decide) (hi.mono fun k hk => Or.inr hk))
  have F2 : Hid (∀ b c X, Lv I w.heap.size c X b aM2 → Calls Try.prog 27 #[.pointer (some ⟨b, 0, none⟩), .int .i64 0] X fun e w' => e = .returned (.int .u8 8) ∧ Below X.heap.size X w') := hid_of (fun b c X ⟨S, h1, h2⟩ => first_any 0 r64_0 (by decide) h1)
  have C2 : Hid (∀ b c X, Lv I w.heap.size c X b aM2 → Calls Try.prog 18 #[.pointer (some ⟨b, 0, none⟩)] X fun e w' => e = .returned (.int .i64 2) ∧ Below X.heap.size X w') := hid_of (fun b c X ⟨S, h1, h2⟩ => I.cached h1)
  have K3 : Hid (∀ b c X, Lv I w.heap.size c X b aM2 → w.heap.size ≤ X.heap.size → c ≤ X.heap.size → Calls Try.prog 25 #[.pointer (some ⟨b, 0, none⟩), .slice (some ⟨X.heap.size, 0, none⟩) 2 2] (X.alloc (.cells #[.bool true, .bool false] 4)) fun e w' => e = .returned (.tuple #[]) ∧ Lv I w.heap.size w'.heap.size w' b aM3 ∧ Below w.heap.size X w') := hid_of (fun b c X h hB hc => ((h.bel ((bel_alloc X _).mono hc)).crash (by simp; omega) (keep := [true, false]) (by decide) ⟨rd_new (l := bls [true, false]) rfl rfl (by simp [bls]), fun _ a n cc e => by cases e; exact Or.inr hc⟩).mono fun e w' ⟨q1, q2, q3⟩ => ⟨q1, q2, ((bel_alloc X _).mono hB).trans q3⟩)
  have F3 : Hid (∀ b c X, Lv I w.heap.size c X b aM3 → Calls Try.prog 27 #[.pointer (some ⟨b, 0, none⟩), .int .i64 0] X fun e w' => e = .returned (.int .u8 7) ∧ Below X.heap.size X w') := hid_of (fun b c X ⟨S, h1, h2⟩ => first_any 0 r64_0 (by decide) h1)
  have C3 : Hid (∀ b c X, Lv I w.heap.size c X b aM3 → Calls Try.prog 18 #[.pointer (some ⟨b, 0, none⟩)] X fun e w' => e = .returned (.int .i64 0) ∧ Below X.heap.size X w') := hid_of (fun b c X ⟨S, h1, h2⟩ => I.cached h1)
  have X4 : Hid (∀ b c X, Lv I w.heap.size c X b aM3 → w.heap.size ≤ X.heap.size → Calls Try.prog 24 #[.pointer (some ⟨b, 0, none⟩), .int .i64 1] X fun e w' => e = .returned (.tuple #[]) ∧ Lv I w.heap.size w'.heap.size w' b aM4 ∧ Below w.heap.size X w') := hid_of (fun b c X h hB => h.fail hB 1 r64_1)
  have W5 : Hid (∀ b c X g, Lv I w.heap.size c X b aM4 → w.heap.size ≤ X.heap.size → CR (fun k => c ≤ k) X (.slice (some ⟨g, 0, none⟩) 16 16) (blk 9) → Calls Try.prog 22 #[.pointer (some ⟨b, 0, none⟩), .int .i64 1, .slice (some ⟨g, 0, none⟩) 16 16] X fun e w' => e = .returned (.int .i64 0) ∧ Lv I w.heap.size w'.heap.size w' b aM5 ∧ Below w.heap.size X w') := hid_of (fun b c X g h hB hi => h.write hB 1 r64_1 (by decide) (hi.mono fun k hk => Or.inr hk))
  have Y6 : Hid (∀ b c X, Lv I w.heap.size c X b aM5 → w.heap.size ≤ X.heap.size → Calls Try.prog 23 #[.pointer (some ⟨b, 0, none⟩)] X fun e w' => e = .returned (.int .i64 8) ∧ Lv I w.heap.size w'.heap.size w' b aM6 ∧ Below w.heap.size X w') := hid_of (fun b c X h hB => h.sync hB (by decide))
  have D6 : Hid (∀ b c X, Lv I w.heap.size c X b aM6 → Calls Try.prog 17 #[.pointer (some ⟨b, 0, none⟩)] X fun e w' => e = .returned (.bool true) ∧ Below X.heap.size X w') := hid_of (fun b c X ⟨S, h1, h2⟩ => I.down h1)
  have K7 : Hid (∀ b c X, Lv I w.heap.size c X b aM6 → w.heap.size ≤ X.heap.size → Calls Try.prog 25 #[.pointer (some ⟨b, 0, none⟩), .slice none 0 0] X fun e w' => e = .returned (.tuple #[]) ∧ Lv I w.heap.size w'.heap.size w' b aM7 ∧ Below w.heap.size X w') := hid_of (fun b c X h hB => h.crash hB (keep := []) (by decide) ⟨⟨none, 0, rfl, Nat.le_refl _, by omega, fun h => by simp [bls] at h⟩, fun h => by simp [bls] at h⟩)
  have D7 : Hid (∀ b c X, Lv I w.heap.size c X b aM7 → Calls Try.prog 17 #[.pointer (some ⟨b, 0, none⟩)] X fun e w' => e = .returned (.bool false) ∧ Below X.heap.size X w') := hid_of (fun b c X ⟨S, h1, h2⟩ => I.down h1)
  have F7a : Hid (∀ b c X, Lv I w.heap.size c X b aM7 → Calls Try.prog 27 #[.pointer (some ⟨b, 0, none⟩), .int .i64 1] X fun e w' => e = .returned (.int .u8 0) ∧ Below X.heap.size X w') := hid_of (fun b c X ⟨S, h1, h2⟩ => first_any 1 r64_1 (by decide) h1)
  have F7b : Hid (∀ b c X, Lv I w.heap.size c X b aM7 → Calls Try.prog 27 #[.pointer (some ⟨b, 0, none⟩), .int .i64 0] X fun e w' => e = .returned (.int .u8 7) ∧ Below X.heap.size X w') := hid_of (fun b c X ⟨S, h1, h2⟩ => first_any 0 r64_0 (by decide) h1)
  go_enter Try.func9, Try.ntmps9
  go_wp2_with (first
    | (go_at_call 11; ((with_reducible refine (CN.out).mono ?_); (rintro e w1 ⟨b, rfl, q1, q2⟩)); have L1 := hid_of q1; have B1 := hid_of q2; have HC1 := hid_of (Nat.le_refl w1.heap.size); clear q1 q2)
    | (go_at_call 12; ((with_reducible refine (QS.out _ _ w1 L1.out).mono ?_); (rintro e w2 ⟨rfl, q1⟩)); have L2 := hid_of (L1.out.bel (q1.mono HC1.out)); have HC2 := hid_of (Nat.le_trans HC1.out q1.size); have B2 := hid_of (B1.out.trans (q1.mono B1.out.size)); clear q1)
    | (go_at_call 13; ((with_reducible refine (QZ.out _ _ w2 L2.out).mono ?_); (rintro e w3 ⟨rfl, q1⟩)); have L3 := hid_of (L2.out.bel (q1.mono HC2.out)); have HC3 := hid_of (Nat.le_trans HC2.out q1.size); have B3 := hid_of (B2.out.trans (q1.mono B2.out.size)); clear q1)
    | (go_at_call 26; ((with_reducible refine (CB.out 7 w3).mono ?_); (rintro e w4 ⟨g4, rfl, q1, q2⟩)); have G4 := hid_of (q1.mono fun k hk => Nat.le_trans HC3.out hk); have L4 := hid_of (L3.out.bel (q2.mono HC3.out)); have B4 := hid_of (B3.out.trans (q2.mono B3.out.size)); clear q1 q2)
    | (go_at_call 22; ((with_reducible refine (W1.out _ _ w4 g4 L4.out B4.out.size G4.out).mono ?_); (rintro e w5 ⟨rfl, q1, q2⟩)); have L5 := hid_of q1; have HC5 := hid_of (Nat.le_refl w5.heap.size); have B5 := hid_of (B4.out.trans q2); clear q1 q2)
    | (go_at_call 26; ((with_reducible refine (CB.out 8 w5).mono ?_); (rintro e w6 ⟨g6, rfl, q1, q2⟩)); have G6 := hid_of (q1.mono fun k hk => Nat.le_trans HC5.out hk); have L6 := hid_of (L5.out.bel (q2.mono HC5.out)); have B6 := hid_of (B5.out.trans (q2.mono B5.out.size)); clear q1 q2)
    | (go_at_call 22; ((with_reducible refine (W2.out _ _ w6 g6 L6.out B6.out.size G6.out).mono ?_); (rintro e w7 ⟨rfl, q1, q2⟩)); have L7 := hid_of q1; have HC7 := hid_of (Nat.le_refl w7.heap.size); have B7 := hid_of (B6.out.trans q2); clear q1 q2)
    | (go_at_call 27; ((with_reducible refine (F2.out _ _ w7 L7.out).mono ?_); (rintro e w8 ⟨rfl, q1⟩)); have L8 := hid_of (L7.out.bel (q1.mono HC7.out)); have HC8 := hid_of (Nat.le_trans HC7.out q1.size); have B8 := hid_of (B7.out.trans (q1.mono B7.out.size)); clear q1)
    | (go_at_call 18; ((with_reducible refine (C2.out _ _ w8 L8.out).mono ?_); (rintro e w9 ⟨rfl, q1⟩)); have L9 := hid_of (L8.out.bel (q1.mono HC8.out)); have HC9 := hid_of (Nat.le_trans HC8.out q1.size); have B9 := hid_of (B8.out.trans (q1.mono B8.out.size)); clear q1)
    | (go_at_call 25; ((with_reducible refine (K3.out _ _ w9 L9.out B9.out.size HC9.out).mono ?_); (rintro e w10 ⟨rfl, q1, q2⟩)); have L10 := hid_of q1; have HC10 := hid_of (Nat.le_refl w10.heap.size); have B10 := hid_of (B9.out.trans q2); clear q1 q2)
    | (go_at_call 27; ((with_reducible refine (F3.out _ _ w10 L10.out).mono ?_); (rintro e w11 ⟨rfl, q1⟩)); have L11 := hid_of (L10.out.bel (q1.mono HC10.out)); have HC11 := hid_of (Nat.le_trans HC10.out q1.size); have B11 := hid_of (B10.out.trans (q1.mono B10.out.size)); clear q1)
    | (go_at_call 18; ((with_reducible refine (C3.out _ _ w11 L11.out).mono ?_); (rintro e w12 ⟨rfl, q1⟩)); have L12 := hid_of (L11.out.bel (q1.mono HC11.out)); have HC12 := hid_of (Nat.le_trans HC11.out q1.size); have B12 := hid_of (B11.out.trans (q1.mono B11.out.size)); clear q1)
    | (go_at_call 24; ((with_reducible refine (X4.out _ _ w12 L12.out B12.out.size).mono ?_); (rintro e w13 ⟨rfl, q1, q2⟩)); have L13 := hid_of q1; have HC13 := hid_of (Nat.le_refl w13.heap.size); have B13 := hid_of (B12.out.trans q2); clear q1 q2)
    | (go_at_call 26; ((with_reducible refine (CB.out 9 w13).mono ?_); (rintro e w14 ⟨g14, rfl, q1, q2⟩)); have G14 := hid_of (q1.mono fun k hk => Nat.le_trans HC13.out hk); have L14 := hid_of (L13.out.bel (q2.mono HC13.out)); have B14 := hid_of (B13.out.trans (q2.mono B13.out.size)); clear q1 q2)
    | (go_at_call 22; ((with_reducible refine (W5.out _ _ w14 g14 L14.out B14.out.size G14.out).mono ?_); (rintro e w15 ⟨rfl, q1, q2⟩)); have L15 := hid_of q1; have HC15 := hid_of (Nat.le_refl w15.heap.size); have B15 := hid_of (B14.out.trans q2); clear q1 q2)
    | (go_at_call 23; ((with_reducible refine (Y6.out _ _ w15 L15.out B15.out.size).mono ?_); (rintro e w16 ⟨rfl, q1, q2⟩)); have L16 := hid_of q1; have HC16 := hid_of (Nat.le_refl w16.heap.size); have B16 := hid_of (B15.out.trans q2); clear q1 q2)
    | (go_at_call 17; ((with_reducible refine (D6.out _ _ w16 L16.out).mono ?_); (rintro e w17 ⟨rfl, q1⟩)); have L17 := hid_of (L16.out.bel (q1.mono HC16.out)); have HC17 := hid_of (Nat.le_trans HC16.out q1.size); have B17 := hid_of (B16.out.trans (q1.mono B16.out.size)); clear q1)
    | (go_at_call 25; ((with_reducible refine (K7.out _ _ w17 L17.out B17.out.size).mono ?_); (rintro e w18 ⟨rfl, q1, q2⟩)); have L18 := hid_of q1; have HC18 := hid_of (Nat.le_refl w18.heap.size); have B18 := hid_of (B17.out.trans q2); clear q1 q2)
    | (go_at_call 17; ((with_reducible refine (D7.out _ _ w18 L18.out).mono ?_); (rintro e w19 ⟨rfl, q1⟩)); have L19 := hid_of (L18.out.bel (q1.mono HC18.out)); have HC19 := hid_of (Nat.le_trans HC18.out q1.size); have B19 := hid_of (B18.out.trans (q1.mono B18.out.size)); clear q1)
    | (go_at_call 27; ((with_reducible refine (F7a.out _ _ w19 L19.out).mono ?_); (rintro e w20 ⟨rfl, q1⟩)); have L20 := hid_of (L19.out.bel (q1.mono HC19.out)); have HC20 := hid_of (Nat.le_trans HC19.out q1.size); have B20 := hid_of (B19.out.trans (q1.mono B19.out.size)); clear q1)
    | (go_at_call 27; ((with_reducible refine (F7b.out _ _ w20 L20.out).mono ?_); (rintro e w21 ⟨rfl, q1⟩)); have L21 := hid_of (L20.out.bel (q1.mono HC20.out)); have HC21 := hid_of (Nat.le_trans HC20.out q1.size); have B21 := hid_of (B20.out.trans (q1.mono B20.out.size)); clear q1))
  go_ret
  exact ⟨rfl, B21.out⟩
end Go.Proofs.Yteceljhhhbmemaa

/- The law New; small and Fits. Bounds on sizes alone. -/
namespace Go.Proofs.Yteceljhhhbmemaa
open Go.RowKit
set_option maxRecDepth 100000
set_option maxHeartbeats 3200000

def fitsB (s z : Int) : Bool := decide ((1 ≤ s ∧ s ≤ 65536) ∧ 16 ≤ z ∧ z ≤ 4096)
theorem fits_any (s z : Int) (w : World) : Calls Try.prog 21 #[.int .i64 s, .int .i64 z] w fun e w' => e = .returned (.bool (fitsB s z)) ∧ w = w' := by
  by_cases h1 : 1 ≤ s
  · have d1 : decide (s ≥ 1) = true := by simpa using h1
    have d1' : decide (1 ≤ s) = true := by simpa using h1
    by_cases h2 : s ≤ 65536
    · have d2 : decide (s ≤ 65536) = true := by simpa using h2
      by_cases h3 : 16 ≤ z
      · have d3 : decide (z ≥ 16) = true := by simpa using h3
        have d3' : decide (16 ≤ z) = true := by simpa using h3
        have HE : Hid (fitsB s z = decide (z ≤ 4096)) := hid_of (by simp [fitsB, h1, h2, h3])
        clear h1 h2 h3
        go_enter Try.func21, Try.ntmps21
        go_wp2
        go_ret
        exact ⟨by rw [HE.out]; rfl, rfl⟩
      · have d3 : decide (z ≥ 16) = false := by simpa using h3
        have d3' : decide (16 ≤ z) = false := by simpa using h3
        have HE : Hid (fitsB s z = false) := hid_of (by simp [fitsB, h3])
        clear h1 h2 h3
        go_enter Try.func21, Try.ntmps21
        go_wp2
        go_ret
        exact ⟨by rw [HE.out]; rfl, rfl⟩
    · have d2 : decide (s ≤ 65536) = false := by simpa using h2
      have HE : Hid (fitsB s z = false) := hid_of (by simp [fitsB, h2])
      clear h1 h2
      go_enter Try.func21, Try.ntmps21
      go_wp2
      go_ret
      exact ⟨by rw [HE.out]; rfl, rfl⟩
  · have d1 : decide (s ≥ 1) = false := by simpa using h1
    have d1' : decide (1 ≤ s) = false := by simpa using h1
    have HE : Hid (fitsB s z = false) := hid_of (by simp [fitsB, h1])
    clear h1
    go_enter Try.func21, Try.ntmps21
    go_wp2
    go_ret
    exact ⟨by rw [HE.out]; rfl, rfl⟩
def smallB (s z : Int) (len : Nat) : Bool := decide ((1 ≤ s ∧ s ≤ 8) ∧ (16 ≤ z ∧ z ≤ 40) ∧ len ≤ 60)
theorem small_any (s z : Int) (a : Option Addr) (len cap : Nat) (w : World) : Calls Try.prog 10 #[.int .i64 s, .int .i64 z, .slice a len cap] w fun e w' => e = .returned (.bool (smallB s z len)) ∧ w = w' := by
  by_cases h1 : 1 ≤ s
  · have d1 : decide (s ≥ 1) = true := by simpa using h1
    have d1' : decide (1 ≤ s) = true := by simpa using h1
    by_cases h2 : s ≤ 8
    · have d2 : decide (s ≤ 8) = true := by simpa using h2
      by_cases h3 : 16 ≤ z
      · have d3 : decide (z ≥ 16) = true := by simpa using h3
        have d3' : decide (16 ≤ z) = true := by simpa using h3
        by_cases h4 : z ≤ 40
        · have d4 : decide (z ≤ 40) = true := by simpa using h4
          have HE : Hid (smallB s z len = decide ((len : Int) ≤ 60)) := hid_of (by
            by_cases h5 : len ≤ 60
            · simp [smallB, h1, h2, h3, h4, h5]; omega
            · simp [smallB, h5]; omega)
          clear h1 h2 h3 h4
          go_enter Try.func10, Try.ntmps10
          go_wp2
          go_ret
          exact ⟨by rw [HE.out]; rfl, rfl⟩
        · have d4 : decide (z ≤ 40) = false := by simpa using h4
          have HE : Hid (smallB s z len = false) := hid_of (by simp [smallB, h4])
          clear h1 h2 h3 h4
          go_enter Try.func10, Try.ntmps10
          go_wp2
          go_ret
          exact ⟨by rw [HE.out]; rfl, rfl⟩
      · have d3 : decide (z ≥ 16) = false := by simpa using h3
        have d3' : decide (16 ≤ z) = false := by simpa using h3
        have HE : Hid (smallB s z len = false) := hid_of (by simp [smallB, h3])
        clear h1 h2 h3
        go_enter Try.func10, Try.ntmps10
        go_wp2
        go_ret
        exact ⟨by rw [HE.out]; rfl, rfl⟩
    · have d2 : decide (s ≤ 8) = false := by simpa using h2
      have HE : Hid (smallB s z len = false) := hid_of (by simp [smallB, h2])
      clear h1 h2
      go_enter Try.func10, Try.ntmps10
      go_wp2
      go_ret
      exact ⟨by rw [HE.out]; rfl, rfl⟩
  · have d1 : decide (s ≥ 1) = false := by simpa using h1
    have d1' : decide (1 ≤ s) = false := by simpa using h1
    have HE : Hid (smallB s z len = false) := hid_of (by simp [smallB, h1])
    clear h1
    go_enter Try.func10, Try.ntmps10
    go_wp2
    go_ret
    exact ⟨by rw [HE.out]; rfl, rfl⟩
theorem new_law (I : PI) (s z : Int) (w : World) (w0 : (Lit.int .i64 s).wf = true) (w1 : (Lit.int .i64 z).wf = true) : Calls Try.prog 4 #[.int .i64 s, .int .i64 z] w (BoP true w) := by
  have rs := wf_d64 w0
  have rz := wf_d64 w1
  clear w0 w1
  have AW := hid_of (fun w => awake_any I w)
  have FT := hid_of (fun w => fits_any s z w)
  by_cases hf : fitsB s z = true
  · rw [hf] at FT
    have hb : (1 ≤ s ∧ s ≤ 65536) ∧ 16 ≤ z ∧ z ≤ 4096 := by simpa [fitsB] using hf
    by_cases h5 : s > 500
    · have d5 : decide (s > 500) = true := by simpa using h5
      have d5' : decide (500 < s) = true := by simpa using h5
      clear hf hb h5 rs rz
      go_enter Try.func4, Try.ntmps4
      go_wp2_with (first
        | (go_at_call 9; ((with_reducible refine (AW.out _).mono ?_); (rintro e w1 ⟨rfl, h1⟩); (have E1 := hid_of h1); clear h1))
        | (go_at_call 21; ((with_reducible refine (FT.out _).mono ?_); (rintro e w2 ⟨rfl, rfl⟩))))
      go_ret
      exact ⟨rfl, E1.out⟩
    · have d5 : decide (s > 500) = false := by simpa using h5
      have d5' : decide (500 < s) = false := by simpa using h5
      obtain ⟨n, rfl⟩ : ∃ n : Nat, s = n := ⟨s.toNat, by omega⟩
      obtain ⟨k, rfl⟩ : ∃ k : Nat, z = k := ⟨z.toNat, by omega⟩
      have CN := hid_of (fun X => I.newY n k (by omega) (by omega) (by omega) (by omega) X)
      have QS : Hid (∀ S b X, I.DS S X b (newF n k) → Calls Try.prog 12 #[.pointer (some ⟨b, 0, none⟩)] X fun e w' => e = .returned (.int .i64 n) ∧ Below X.heap.size X w') := hid_of (fun S b X h => by
        have h1 := I.sectors h
        rwa [show (newF n k).secs.length = n by simp [newF]] at h1)
      have QZ : Hid (∀ S b X, I.DS S X b (newF n k) → Calls Try.prog 13 #[.pointer (some ⟨b, 0, none⟩)] X fun e w' => e = .returned (.int .i64 k) ∧ Below X.heap.size X w') := hid_of (fun S b X h => I.size h)
      have QC : Hid (∀ S b X, I.DS S X b (newF n k) → Calls Try.prog 18 #[.pointer (some ⟨b, 0, none⟩)] X fun e w' => e = .returned (.int .i64 0) ∧ Below X.heap.size X w') := hid_of (fun S b X h => I.cached h)
      have QD : Hid (∀ S b X, I.DS S X b (newF n k) → Calls Try.prog 17 #[.pointer (some ⟨b, 0, none⟩)] X fun e w' => e = .returned (.bool false) ∧ Below X.heap.size X w') := hid_of (fun S b X h => I.down h)
      have KK : Hid (∀ S b X Y, I.DS S X b (newF n k) → Below X.heap.size X Y → I.DS (fun q => S q ∧ q < X.heap.size) Y b (newF n k)) := hid_of (fun S b X Y h hb => I.keep (I.lt h) ⟨hb.size, fun q hq _ => hb.block q hq.2⟩)
      clear hf hb h5 rs rz
      go_enter Try.func4, Try.ntmps4
      go_wp2_with (first
        | (go_at_call 9; ((with_reducible refine (AW.out _).mono ?_); (rintro e w1 ⟨rfl, h1⟩); (have E1 := hid_of h1); clear h1))
        | (go_at_call 21; ((with_reducible refine (FT.out _).mono ?_); (rintro e w9 ⟨rfl, rfl⟩)))
        | (go_at_call 11; ((with_reducible refine (CN.out w1).mono ?_); (rintro e w2 ⟨b, rfl, q1, q2⟩)); have D2 := hid_of q1; have E2 := hid_of (E1.out.trans (q2.mono E1.out.size)); clear q1 q2)
        | (go_at_call 12; ((with_reducible refine (QS.out _ _ w2 D2.out).mono ?_); (rintro e w3 ⟨rfl, q1⟩)); have D3 := hid_of (KK.out _ _ _ _ D2.out q1); have E3 := hid_of (E2.out.trans (q1.mono E2.out.size)); clear q1)
        | (go_at_call 13; ((with_reducible refine (QZ.out _ _ w3 D3.out).mono ?_); (rintro e w4 ⟨rfl, q1⟩)); have D4 := hid_of (KK.out _ _ _ _ D3.out q1); have E4 := hid_of (E3.out.trans (q1.mono E3.out.size)); clear q1)
        | (go_at_call 18; ((with_reducible refine (QC.out _ _ w4 D4.out).mono ?_); (rintro e w5 ⟨rfl, q1⟩)); have D5 := hid_of (KK.out _ _ _ _ D4.out q1); have E5 := hid_of (E4.out.trans (q1.mono E4.out.size)); clear q1)
        | (go_at_call 17; ((with_reducible refine (QD.out _ _ w5 D5.out).mono ?_); (rintro e w6 ⟨rfl, q1⟩)); have E6 := hid_of (E5.out.trans (q1.mono E5.out.size)); clear q1))
      go_ret
      exact ⟨by first | rfl | simp, E6.out⟩
  · have hf' : fitsB s z = false := by simpa using hf
    rw [hf'] at FT
    have hb : ¬((1 ≤ s ∧ s ≤ 65536) ∧ 16 ≤ z ∧ z ≤ 4096) := by simpa [fitsB] using hf'
    have CN := hid_of (fun X => I.newN s z rs rz hb X)
    by_cases h5 : s > 500
    · have d5 : decide (s > 500) = true := by simpa using h5
      have d5' : decide (500 < s) = true := by simpa using h5
      clear hf hf' hb h5 rs rz
      go_enter Try.func4, Try.ntmps4
      go_wp2_with (first
        | (go_at_call 9; ((with_reducible refine (AW.out _).mono ?_); (rintro e w1 ⟨rfl, h1⟩); (have E1 := hid_of h1); clear h1))
        | (go_at_call 21; ((with_reducible refine (FT.out _).mono ?_); (rintro e w9 ⟨rfl, rfl⟩)))
        | (go_at_call 11; ((with_reducible refine (CN.out w1).mono ?_); (rintro e w2 ⟨rfl, q2⟩)); have E2 := hid_of (E1.out.trans (q2.mono E1.out.size)); clear q2))
      go_ret
      exact ⟨rfl, E2.out⟩
    · have d5 : decide (s > 500) = false := by simpa using h5
      have d5' : decide (500 < s) = false := by simpa using h5
      clear hf hf' hb h5 rs rz
      go_enter Try.func4, Try.ntmps4
      go_wp2_with (first
        | (go_at_call 9; ((with_reducible refine (AW.out _).mono ?_); (rintro e w1 ⟨rfl, h1⟩); (have E1 := hid_of h1); clear h1))
        | (go_at_call 21; ((with_reducible refine (FT.out _).mono ?_); (rintro e w9 ⟨rfl, rfl⟩)))
        | (go_at_call 11; ((with_reducible refine (CN.out w1).mono ?_); (rintro e w2 ⟨rfl, q2⟩)); have E2 := hid_of (E1.out.trans (q2.mono E1.out.size)); clear q2))
      go_ret
      exact ⟨rfl, E2.out⟩
end Go.Proofs.Yteceljhhhbmemaa
