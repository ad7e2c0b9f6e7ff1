/- Texts in one: DgCr, DsPI, DgI, DsMth, DkM, DkR, CkMath, CkNum, CkSlt, CkSec, CkWri, CkSl, CkFil, CkAr, CkPut, ShaMath, ShaWords. -/
import Derived.Test.YtlffiebnieakjaaDoorMgEA
import Derived.Deep.QuietTactic
import Derived.BigQuiet
import Derived.Laws.Bits64b
import Derived.WalkKit
import Derived.Laws.BitsAllLaws
import Derived.Test.YtlffiebnieakjaaDoorProg
import Derived.WalkSpells
import Derived.WalkLawsBesides
import Derived.IntWalk
import Derived.Outline
set_option linter.unusedVariables false
set_option linter.unusedSimpArgs false
/- The program's disk: Crash. Bounds on sizes alone. -/
namespace Go.Proofs.YtlffiebnieakjaaDoor
open Go.RowKit Go.Maps
set_option maxRecDepth 100000
set_option maxHeartbeats 3200000
/-- The content that the first k writes that keep names give a sector. -/
def lookK (c : List (Nat × List Int)) (keep : List Bool) (s : Nat) : Nat → Option (List Int)
  | 0 => none
  | k + 1 => match c[k]?, keep[k]? with
    | some p, some true => if s = p.1 then some p.2 else lookK c keep s k
    | _, _ => lookK c keep s k
theorem keep_look (S : List (List Int)) (c : List (Nat × List Int)) (keep : List Bool) (hc : ∀ p ∈ c, p.1 < S.length) {s : Nat} {x : List Int} (hx : S[s]? = some x) : ∀ k, (keepF S c keep k)[s]? = some ((lookK c keep s k).getD x)
  | 0 => hx
  | k + 1 => by
    have ih := keep_look S c keep hc hx k
    rw [keepF, lookK]
    cases hp : c[k]? with
    | none => exact ih
    | some p =>
      cases hk : keep[k]? with
      | none => exact ih
      | some kb =>
        cases kb with
        | false => exact ih
        | true =>
          simp only []
          by_cases e : s = p.1
          · have hl := hc p (List.mem_of_getElem? hp)
            rw [if_pos e, e, List.getElem?_set_self (by rw [keepF_len]; exact hl)]
            rfl
          · rw [if_neg e, List.getElem?_set_ne (Ne.symm e)]
            exact ih
theorem lookK_yes {c : List (Nat × List Int)} {keep : List Bool} {k : Nat} {p : Nat × List Int} (hp : c[k]? = some p) (hk : keep[k]? = some true) (s : Nat) : lookK c keep s (k + 1) = if s = p.1 then some p.2 else lookK c keep s k := by
  rw [lookK, hp, hk]
theorem lookK_no {c : List (Nat × List Int)} {keep : List Bool} {k : Nat} (hk : keep[k]? = some false) (s : Nat) : lookK c keep s (k + 1) = lookK c keep s k := by
  rw [lookK, hk]
  cases c[k]? <;> rfl
namespace Dg
/-- Power is on again, no countdown. -/
theorem DK.reset {S : Nat → Prop} {w : World} {b : Nat} {M : DM} {bd bl : Nat} {vc : Value} {Dd Dl : DU} {fd : Nat → Option (List Int)} {cg : Bool} {cd : Int} {ps : List PV} (h : DK S w b M bd bl vc Dd Dl fd cg cd ps) :
    DK S (((w.setCell ⟨b, 5, none⟩ (.bool false)).setCell ⟨b, 6, none⟩ (.bool false)).setCell ⟨b, 7, none⟩ (.int .i64 0)) b { M with off := false, cnt := -1 } bd bl vc Dd Dl fd false 0 ps := by
  have k1 : Keeps (fun k => S k ∧ k ≠ b) w (((w.setCell ⟨b, 5, none⟩ (.bool false)).setCell ⟨b, 6, none⟩ (.bool false)).setCell ⟨b, 7, none⟩ (.int .i64 0)) := ((keeps_set w b 5 _ fun hk => hk.2 rfl).trans (keeps_set _ b 6 _ fun hk => hk.2 rfl)).trans (keeps_set _ b 7 _ fun hk => hk.2 rfl)
  have kq : Keeps (Qp S b bd bl vc) w (((w.setCell ⟨b, 5, none⟩ (.bool false)).setCell ⟨b, 6, none⟩ (.bool false)).setCell ⟨b, 7, none⟩ (.int .i64 0)) := ⟨k1.1, fun k hk => k1.2 k ⟨hk.1, hk.2.1⟩⟩
  exact ⟨h.sb, h.sd, h.sl, Go.Proofs.YtlffiebnieakjaaDoor.blk_setCell (k := 7) (Go.Proofs.YtlffiebnieakjaaDoor.blk_setCell (k := 6) (Go.Proofs.YtlffiebnieakjaaDoor.blk_setCell (k := 5) h.box)), h.dur.keep (k1.2 bd h.sd h.dur.blt) kq, h.sec, h.lat.keep (k1.2 bl ⟨h.sl.1, h.sl.2.1⟩ h.lat.blt) kq, own_same h.cac fun x hx => k1.2 x ⟨(h.ci x hx).1, (h.ci x hx).2.1⟩ (h.cac.lt x hx).2, h.ci, fun i p q hp hq => ⟨(h.ent i p q hp hq).1, (h.ent i p q hp hq).2.1, (h.ent i p q hp hq).2.2.keep kq⟩, ⟨h.ok.sz, h.ok.secs, h.ok.con, h.ok.ent, by show (-1 : Int) ≤ -1 ∧ (-1 : Int) ≤ _; omega⟩, Or.inr ⟨rfl, rfl⟩⟩
theorem DK.frees {S : Nat → Prop} {w : World} {b : Nat} {M : DM} {bd bl : Nat} {vc : Value} {Dd Dl : DU} {fd : Nat → Option (List Int)} {cg : Bool} {cd : Int} {ps : List PV} (h : DK S w b M bd bl vc Dd Dl fd cg cd ps) : w.frozen? ⟨b, 5, none⟩ = false ∧ (w.setCell ⟨b, 5, none⟩ (.bool false)).frozen? ⟨b, 6, none⟩ = false ∧ ((w.setCell ⟨b, 5, none⟩ (.bool false)).setCell ⟨b, 6, none⟩ (.bool false)).frozen? ⟨b, 7, none⟩ = false :=
  ⟨fr_blk h.box 5, fr_blk (Go.Proofs.YtlffiebnieakjaaDoor.blk_setCell (k := 5) h.box) 6, fr_blk (Go.Proofs.YtlffiebnieakjaaDoor.blk_setCell (k := 6) (Go.Proofs.YtlffiebnieakjaaDoor.blk_setCell (k := 5) h.box)) 7⟩
section
variable (S : Nat → Prop) (w : World) (b : Nat) (M : DM) (bd bl : Nat) (vc : Value) (Dd Dl : DU) (fd : Nat → Option (List Int)) (cg : Bool) (cd : Int) (ps : List PV)
theorem crash_any (U : Nat → Prop) (ko : Option Addr) (kn kc : Nat) (keep : List Bool) (hc : M.cache.length ≤ 1000000) (hin : Rd w (.slice ko kn kc) (bls keep) ∧ (0 < (bls keep).length → In U (.slice ko kn kc))) (hU : ∀ k, U k → ¬ S k) (h : DK S w b M bd bl vc Dd Dl fd cg cd ps) :
    Calls Tryd.prog 28 #[.pointer (some ⟨b, 0, none⟩), .slice ko kn kc] w fun e w' => e = .returned (.tuple #[]) ∧ DS (Nw S w w') w' b (crashF M keep) ∧ Kept S w w' := by
  obtain ⟨aC, cc, rfl⟩ := own_shape h.cac
  obtain ⟨m, hm⟩ : ∃ m, m = M.cache.length := ⟨_, rfl⟩
  have HM := hid_of hm
  have hm6 : m ≤ 1000000 := by rw [hm]; exact hc
  have hkn : kn = keep.length := by have := (rd_cut hin.1).1; rwa [bls_length] at this
  subst hkn
  have hkc := (rd_cut hin.1).2
  have hcc := h.prd.cut.2
  rw [← hm] at hcc
  obtain ⟨c0, c1, c2, c3, c4, c5, c6, c7⟩ := h.cells
  rw [← hm] at c3
  have hmm := @run_makeMap Tryd.prog
  have h0 := h.keep (keeps_alloc S w (.map #[] 0))
  obtain ⟨y0, y1, y2, y3, y4, y5, y6, y7⟩ := h0.cells
  rw [← hm] at y3
  obtain ⟨l, hl⟩ : ∃ l, l = keep.length := ⟨_, rfl⟩
  have HL := hid_of hl
  have hl9 : l ≤ 9223372036854775807 := by omega
  have HD := hid_of (fun (X : World) (hX : Below w.heap.size w X) => h.lt.keep (w' := X) ⟨hX.size, fun k hk _ => hX.block k hk.2⟩)
  have HR := hid_of (fun (X : World) (hX : Below w.heap.size w X) => (hin.1.keepN (w' := X) (S := fun k => k < w.heap.size) (fun h0 => hin.1.inlt h0) hX.size fun k hk _ => hX.block k hk))
  have HP := hid_of (fun (X : World) (hX : Below w.heap.size w X) => (h.lt.keep (w' := X) ⟨hX.size, fun k hk _ => hX.block k hk.2⟩).prd)
  have HE := hid_of h.ent
  have HPL := hid_of h.pl
  have HZ := hid_of (MapR.made (Qp (fun k => S k ∧ k < w.heap.size) b bd bl (.slice aC M.cache.length cc)) w M.sz M.secs.length)
  have hn9 : M.secs.length ≤ 65536 := h.ok.secs
  have HQ := hid_of (fun j q (hq : M.cache[j]? = some q) => h.ok.ent q (List.mem_of_getElem? hq))
  have HB0 := hid_of (bel_alloc w (.map #[] 0))
  rw [← hm] at HD HP HZ HPL HE
  rw [← hl] at HR hkc ⊢
  have HST := hid_of (fun (X : World) (Dc : DU) (hX : Below w.heap.size w X) (hmp : MapR (Qp (fun k => S k ∧ k < w.heap.size) b bd bl (.slice aC m cc)) X M.sz M.secs.length w.heap.size Dc (fun s => lookK M.cache keep s (min m l))) => settle_any (fun k => S k ∧ k < w.heap.size) X b M bd bl (.slice aC m cc) Dd Dl fd cg cd ps (HD.out X hX) w.heap.size Dc (fun s => lookK M.cache keep s (min m l)) hmp (by have := h.dur.blt; omega) (keepF M.secs M.cache keep (min m l)) (keepF_len _ _ _ _) (fun s hs => by
    have h9 := keep_look M.secs M.cache keep (fun p hp => (h.ok.ent p hp).1) (h.sec s hs) (min m l)
    rw [h9]
    cases lookK M.cache keep s (min m l) <;> rfl) ⟨h.ok.sz, by show (keepF _ _ _ _).length ≤ _; rw [keepF_len]; exact h.ok.secs, keepF_con _ _ _ _ h.ok.con (fun p hp => (h.ok.ent p hp).2) _, fun p hp => by simp at hp, h.ok.cnt⟩)
  have HCR : Hid (crashF M keep = { M with secs := keepF M.secs M.cache keep (min m l), cache := [], off := false, cnt := -1 }) := hid_of (by rw [crashF, hm, hl])
  have HSB := hid_of h.sb
  by_cases hml : l ≤ m
  · have d2 : decide ((l : Int) ≤ (m : Int)) = true := by simp; omega
    have d3 : decide ((m : Int) < (l : Int)) = false := by simp; omega
    have d4 : (l : Int) ≤ (cc : Int) := by omega
    rw [show min m l = l by omega] at HST HCR
    clear hm hc hU hl h h0 hin
    go_enter Tryd.func28, Tryd.ntmps28
    go_wp2
    go_quiet (fail)
    go_wp2
    go_loopw [5, 6, 22] (fun v5 v6 iv wr => ∃ (j : Nat) (Dc : DU), j ≤ l ∧ iv = .int .i64 j ∧ Hid (MapR (Qp (fun k => S k ∧ k < w.heap.size) b bd bl (.slice aC m cc)) wr M.sz M.secs.length w.heap.size Dc (fun s => lookK M.cache keep s j)) ∧ Hid (Below w.heap.size w wr)) (fun _ _ iv _ => l - (intOf iv).toNat)
    case atStart => exact ⟨0, _, Nat.zero_le _, rfl, hid_of (HZ.out.keep rfl ⟨Nat.le_refl _, fun _ _ _ => rfl⟩), hid_of (bel_drewN HB0.out _)⟩
    case round =>
      obtain ⟨j, Dc, hj, rfl, hmp, hb⟩ := hrel
      by_cases hlt : j < l
      · have hdd : decide (j < l) = true := by simpa using hlt
        have hjq : (j : Int) < (l : Int) := by omega
        obtain ⟨p, hp⟩ : ∃ p, ps[j]? = some p := ⟨_, List.getElem?_eq_getElem (by have := HPL.out; omega)⟩
        obtain ⟨q, hq⟩ : ∃ q, M.cache[j]? = some q := ⟨_, List.getElem?_eq_getElem (by have := HM.out; omega)⟩
        obtain ⟨kb, hkb⟩ : ∃ kb, keep[j]? = some kb := ⟨_, List.getElem?_eq_getElem (by have := HL.out; omega)⟩
        obtain ⟨gk, ok, rfl, kk⟩ := rd_at (HR.out wr hb.out) (i := j) (t := .bool kb) (by rw [bls, List.getElem?_map, hkb]; rfl)
        obtain ⟨gc, oc, rfl, k0, k1⟩ := (HP.out wr hb.out).get hp
        obtain ⟨r1, ⟨g, r2⟩, r3⟩ := HE.out j p q hp hq
        rw [r1] at k0
        rw [r2] at k1
        obtain ⟨W1, hW1⟩ : ∃ W1, W1 = wr.alloc (.cells #[.int .i64 q.1, .slice (some ⟨g, 0, none⟩) M.sz M.sz] 77) := ⟨_, rfl⟩
        have hb1 : Hid (Below w.heap.size w W1) := hid_of (by rw [hW1]; exact hb.out.trans ((bel_alloc wr _).mono hb.out.size))
        obtain ⟨_, _, e9, kk1⟩ := rd_at (HR.out W1 hb1.out) (i := j) (t := .bool kb) (by rw [bls, List.getElem?_map, hkb]; rfl)
        cases e9
        have m1 : Hid (MapR (Qp (fun k => S k ∧ k < w.heap.size) b bd bl (.slice (some ⟨gc, oc, none⟩) m cc)) W1 M.sz M.secs.length w.heap.size Dc (fun s => lookK M.cache keep s j)) := hid_of (by
          rw [hW1]
          exact hmp.out.keep ((bel_alloc wr _).block _ hmp.out.blt) (keeps_belw (bel_alloc wr _)))
        have hn1 : W1.heap[wr.heap.size]? = some (.cells [.int .i64 q.1, .slice (some ⟨g, 0, none⟩) M.sz M.sz].toArray 77 (0, 0)) := by rw [hW1]; exact heap_alloc_new wr _
        have n0 := cell_blk (j := 0) hn1 rfl
        have n1 := cell_blk (j := 1) hn1 rfl
        obtain ⟨hq1, hq2⟩ := HQ.out j q hq
        have hq9 : q.1 ≤ 9223372036854775807 := by omega
        have RV : Hid (CR (Qp (fun k => S k ∧ k < w.heap.size) b bd bl (.slice (some ⟨gc, oc, none⟩) m cc)) W1 (.slice (some ⟨g, 0, none⟩) M.sz M.sz) q.2) := hid_of (by
          rw [r2] at r3
          exact (CR.keep r3.lt ⟨hb1.out.size, fun k hk _ => hb1.out.block k hk.2⟩).mono fun k hk => ⟨⟨hk.1.1, hk.2⟩, hk.1.2⟩)
        have hsz1 := m1.out.len
        have HKB := hid_of hkb
        have HQJ := hid_of hq
        rw [hW1] at kk1 n0 n1
        clear r3 hp hq hkb
        cases kb with
        | false =>
          have HN : Hid (MapR (Qp (fun k => S k ∧ k < w.heap.size) b bd bl (.slice (some ⟨gc, oc, none⟩) m cc)) W1 M.sz M.secs.length w.heap.size Dc (fun s => lookK M.cache keep s (j + 1))) := hid_of (m1.out.congr fun s hs => (lookK_no HKB.out s).symm)
          rw [hW1] at HN hb1
          go_wp2
          go_roundw
          case rel => exact ⟨j + 1, Dc, by omega, by go_num, HN, hb1⟩
          case measure => simp [intOf]; omega
        | true =>
          have O1 : Hid (W1.ownsMap Tryd.prog 3 (RS M.sz) w.heap.size (Maps.size Dc) Dc) := hid_of m1.out.own
          have HN := hid_of (fun w9 n (ho : w9.ownsMap Tryd.prog 3 (RS M.sz) w.heap.size n (Dc.put (kL q.1) (.lit (.int .i64 g)))) (hg : W1.grownBy w9 (some w.heap.size)) => (show MapR (Qp (fun k => S k ∧ k < w.heap.size) b bd bl (.slice (some ⟨gc, oc, none⟩) m cc)) w9 M.sz M.secs.length w.heap.size (Dc.put (kL q.1) (.lit (.int .i64 g))) (fun s => lookK M.cache keep s (j + 1)) ∧ Below w.heap.size w w9 from ⟨(m1.out.put hq1 RV.out ho hg (fun hk => Nat.lt_irrefl _ hk.1.2)).congr fun s hs => (lookK_yes HQJ.out HKB.out s).symm, hb1.out.grown hg hb1.out.size (fun k hk => by cases hk; exact Nat.le_refl _)⟩))
          rw [hW1] at O1 HN
          go_wp2_with (at_mapUpdate; refine wpList_mapUpdate_own _ rfl _ _ _ 64 rfl 3 32 lawK Tryd.underlying64 (RS M.sz) w.heap.size _ Dc rfl O1.out (by unfold maxLen; omega) _ _ (kL q.1) rfl rfl (keyOf_kL q.1 hq9) (.lit (.int .i64 g)) [] (rs_at _ _) ?_; intro w9 q1 q2; obtain ⟨z1, z2⟩ := HN.out w9 _ q1 q2; have M9 := hid_of z1; have B9 := hid_of z2; clear z1 z2 q1 q2)
          go_roundw
          case rel => exact ⟨j + 1, _, by omega, by go_num, M9, B9⟩
          case measure => simp [intOf]; omega
      · obtain rfl : l = j := by omega
        have hdd : decide (l < l) = false := by simp
        go_wp2_with (go_at_call 40; ((with_reducible refine (HST.out wr Dc hb.out hmp.out).mono ?_); (rintro e w2 ⟨rfl, ⟨bl2, Dd2, fd2, q1⟩, q2⟩)); obtain ⟨x0, x1, x2, x3, x4, x5, x6, x7⟩ := q1.cells; obtain ⟨f5, f6, f7⟩ := q1.frees; have D2 := hid_of q1.reset; have K2 := hid_of q2; clear q1 q2)
        go_end0
        have hsb := hb.out.size
        rw [HCR.out]
        refine ⟨rfl, ⟨_, _, _, _, _, _, _, _, _, D2.out.lt.mono fun k hk => ?_⟩, ?_⟩
        · rcases hk.1 with h1 | h1
          · exact Or.inl h1.1
          · exact Or.inr ⟨by omega, hk.2⟩
        · exact ((((Kept.ofBelow hb.out).trans (K2.out.mono fun k hk => hk.1)).setCell b 5 _ (Or.inl HSB.out)).setCell b 6 _ (Or.inl HSB.out)).setCell b 7 _ (Or.inl HSB.out)
  · have d2 : decide ((l : Int) ≤ (m : Int)) = false := by simp; omega
    have d3 : decide ((m : Int) < (l : Int)) = true := by simp; omega
    have d4 : (m : Int) ≤ (cc : Int) := by omega
    rw [show min m l = m by omega] at HST HCR
    clear hm hc hU hl h h0 hin
    go_enter Tryd.func28, Tryd.ntmps28
    go_wp2
    go_quiet (fail)
    go_wp2
    go_loopw [5, 6, 22] (fun v5 v6 iv wr => ∃ (j : Nat) (Dc : DU), j ≤ m ∧ iv = .int .i64 j ∧ Hid (MapR (Qp (fun k => S k ∧ k < w.heap.size) b bd bl (.slice aC m cc)) wr M.sz M.secs.length w.heap.size Dc (fun s => lookK M.cache keep s j)) ∧ Hid (Below w.heap.size w wr)) (fun _ _ iv _ => m - (intOf iv).toNat)
    case atStart => exact ⟨0, _, Nat.zero_le _, rfl, hid_of (HZ.out.keep rfl ⟨Nat.le_refl _, fun _ _ _ => rfl⟩), hid_of (bel_drewN HB0.out _)⟩
    case round =>
      obtain ⟨j, Dc, hj, rfl, hmp, hb⟩ := hrel
      by_cases hlt : j < m
      · have hdd : decide (j < m) = true := by simpa using hlt
        have hjq : (j : Int) < (m : Int) := by omega
        obtain ⟨p, hp⟩ : ∃ p, ps[j]? = some p := ⟨_, List.getElem?_eq_getElem (by have := HPL.out; omega)⟩
        obtain ⟨q, hq⟩ : ∃ q, M.cache[j]? = some q := ⟨_, List.getElem?_eq_getElem (by have := HM.out; omega)⟩
        obtain ⟨kb, hkb⟩ : ∃ kb, keep[j]? = some kb := ⟨_, List.getElem?_eq_getElem (by have := HL.out; omega)⟩
        obtain ⟨gk, ok, rfl, kk⟩ := rd_at (HR.out wr hb.out) (i := j) (t := .bool kb) (by rw [bls, List.getElem?_map, hkb]; rfl)
        obtain ⟨gc, oc, rfl, k0, k1⟩ := (HP.out wr hb.out).get hp
        obtain ⟨r1, ⟨g, r2⟩, r3⟩ := HE.out j p q hp hq
        rw [r1] at k0
        rw [r2] at k1
        obtain ⟨W1, hW1⟩ : ∃ W1, W1 = wr.alloc (.cells #[.int .i64 q.1, .slice (some ⟨g, 0, none⟩) M.sz M.sz] 77) := ⟨_, rfl⟩
        have hb1 : Hid (Below w.heap.size w W1) := hid_of (by rw [hW1]; exact hb.out.trans ((bel_alloc wr _).mono hb.out.size))
        obtain ⟨_, _, e9, kk1⟩ := rd_at (HR.out W1 hb1.out) (i := j) (t := .bool kb) (by rw [bls, List.getElem?_map, hkb]; rfl)
        cases e9
        have m1 : Hid (MapR (Qp (fun k => S k ∧ k < w.heap.size) b bd bl (.slice (some ⟨gc, oc, none⟩) m cc)) W1 M.sz M.secs.length w.heap.size Dc (fun s => lookK M.cache keep s j)) := hid_of (by
          rw [hW1]
          exact hmp.out.keep ((bel_alloc wr _).block _ hmp.out.blt) (keeps_belw (bel_alloc wr _)))
        have hn1 : W1.heap[wr.heap.size]? = some (.cells [.int .i64 q.1, .slice (some ⟨g, 0, none⟩) M.sz M.sz].toArray 77 (0, 0)) := by rw [hW1]; exact heap_alloc_new wr _
        have n0 := cell_blk (j := 0) hn1 rfl
        have n1 := cell_blk (j := 1) hn1 rfl
        obtain ⟨hq1, hq2⟩ := HQ.out j q hq
        have hq9 : q.1 ≤ 9223372036854775807 := by omega
        have RV : Hid (CR (Qp (fun k => S k ∧ k < w.heap.size) b bd bl (.slice (some ⟨gc, oc, none⟩) m cc)) W1 (.slice (some ⟨g, 0, none⟩) M.sz M.sz) q.2) := hid_of (by
          rw [r2] at r3
          exact (CR.keep r3.lt ⟨hb1.out.size, fun k hk _ => hb1.out.block k hk.2⟩).mono fun k hk => ⟨⟨hk.1.1, hk.2⟩, hk.1.2⟩)
        have hsz1 := m1.out.len
        have HKB := hid_of hkb
        have HQJ := hid_of hq
        rw [hW1] at kk1 n0 n1
        clear r3 hp hq hkb
        cases kb with
        | false =>
          have HN : Hid (MapR (Qp (fun k => S k ∧ k < w.heap.size) b bd bl (.slice (some ⟨gc, oc, none⟩) m cc)) W1 M.sz M.secs.length w.heap.size Dc (fun s => lookK M.cache keep s (j + 1))) := hid_of (m1.out.congr fun s hs => (lookK_no HKB.out s).symm)
          rw [hW1] at HN hb1
          go_wp2
          go_roundw
          case rel => exact ⟨j + 1, Dc, by omega, by go_num, HN, hb1⟩
          case measure => simp [intOf]; omega
        | true =>
          have O1 : Hid (W1.ownsMap Tryd.prog 3 (RS M.sz) w.heap.size (Maps.size Dc) Dc) := hid_of m1.out.own
          have HN := hid_of (fun w9 n (ho : w9.ownsMap Tryd.prog 3 (RS M.sz) w.heap.size n (Dc.put (kL q.1) (.lit (.int .i64 g)))) (hg : W1.grownBy w9 (some w.heap.size)) => (show MapR (Qp (fun k => S k ∧ k < w.heap.size) b bd bl (.slice (some ⟨gc, oc, none⟩) m cc)) w9 M.sz M.secs.length w.heap.size (Dc.put (kL q.1) (.lit (.int .i64 g))) (fun s => lookK M.cache keep s (j + 1)) ∧ Below w.heap.size w w9 from ⟨(m1.out.put hq1 RV.out ho hg (fun hk => Nat.lt_irrefl _ hk.1.2)).congr fun s hs => (lookK_yes HQJ.out HKB.out s).symm, hb1.out.grown hg hb1.out.size (fun k hk => by cases hk; exact Nat.le_refl _)⟩))
          rw [hW1] at O1 HN
          go_wp2_with (at_mapUpdate; refine wpList_mapUpdate_own _ rfl _ _ _ 64 rfl 3 32 lawK Tryd.underlying64 (RS M.sz) w.heap.size _ Dc rfl O1.out (by unfold maxLen; omega) _ _ (kL q.1) rfl rfl (keyOf_kL q.1 hq9) (.lit (.int .i64 g)) [] (rs_at _ _) ?_; intro w9 q1 q2; obtain ⟨z1, z2⟩ := HN.out w9 _ q1 q2; have M9 := hid_of z1; have B9 := hid_of z2; clear z1 z2 q1 q2)
          go_roundw
          case rel => exact ⟨j + 1, _, by omega, by go_num, M9, B9⟩
          case measure => simp [intOf]; omega
      · obtain rfl : m = j := by omega
        have hdd : decide (m < m) = false := by simp
        go_wp2_with (go_at_call 40; ((with_reducible refine (HST.out wr Dc hb.out hmp.out).mono ?_); (rintro e w2 ⟨rfl, ⟨bl2, Dd2, fd2, q1⟩, q2⟩)); obtain ⟨x0, x1, x2, x3, x4, x5, x6, x7⟩ := q1.cells; obtain ⟨f5, f6, f7⟩ := q1.frees; have D2 := hid_of q1.reset; have K2 := hid_of q2; clear q1 q2)
        go_end0
        have hsb := hb.out.size
        rw [HCR.out]
        refine ⟨rfl, ⟨_, _, _, _, _, _, _, _, _, D2.out.lt.mono fun k hk => ?_⟩, ?_⟩
        · rcases hk.1 with h1 | h1
          · exact Or.inl h1.1
          · exact Or.inr ⟨by omega, hk.2⟩
        · exact ((((Kept.ofBelow hb.out).trans (K2.out.mono fun k hk => hk.1)).setCell b 5 _ (Or.inl HSB.out)).setCell b 6 _ (Or.inl HSB.out)).setCell b 7 _ (Or.inl HSB.out)
end
end Dg
end Go.Proofs.YtlffiebnieakjaaDoor

/- What the laws ask of the program's disk (an interface, filled by the texts on package disk). A disk in a law's run. Bounds on sizes alone. -/
namespace Go.Proofs.YtlffiebnieakjaaDoor
open Go.RowKit

/-- The program's disk: a predicate 'the disk in block b, all of it in S, is M', and what each function gives. -/
structure PI where
  DS : (Nat → Prop) → World → Nat → DM → Prop
  keep : ∀ {S : Nat → Prop} {w w' : World} {b : Nat} {M : DM}, DS S w b M → Keeps S w w' → DS S w' b M
  mono : ∀ {S T : Nat → Prop} {w : World} {b : Nat} {M : DM}, DS S w b M → (∀ k, S k → T k) → DS T w b M
  lt : ∀ {S : Nat → Prop} {w : World} {b : Nat} {M : DM}, DS S w b M → DS (fun k => S k ∧ k < w.heap.size) w b M
  ok : ∀ {S : Nat → Prop} {w : World} {b : Nat} {M : DM}, DS S w b M → M.Ok
  newY : ∀ (n sz : Nat), 1 ≤ n → n ≤ 65536 → 16 ≤ sz → sz ≤ 4096 → ∀ w, Calls Tryd.prog 29 #[.int .i64 n, .int .i64 sz] w fun e w' => ∃ b, e = .returned (.tuple #[.pointer (some ⟨b, 0, none⟩), .int .i64 0]) ∧ DS (fun k => w.heap.size ≤ k ∧ k < w'.heap.size) w' b (newF n sz) ∧ Below w.heap.size w w'
  newN : ∀ (n sz : Int), R64 n → R64 sz → ¬((1 ≤ n ∧ n ≤ 65536) ∧ 16 ≤ sz ∧ sz ≤ 4096) → ∀ w, Calls Tryd.prog 29 #[.int .i64 n, .int .i64 sz] w fun e w' => e = .returned (.tuple #[.pointer none, .int .i64 1]) ∧ Below w.heap.size w w'
  sectors : ∀ {S : Nat → Prop} {w : World} {b : Nat} {M : DM}, DS S w b M → Calls Tryd.prog 12 #[.pointer (some ⟨b, 0, none⟩)] w fun e w' => e = .returned (.int .i64 M.secs.length) ∧ Below w.heap.size w w'
  size : ∀ {S : Nat → Prop} {w : World} {b : Nat} {M : DM}, DS S w b M → Calls Tryd.prog 19 #[.pointer (some ⟨b, 0, none⟩)] w fun e w' => e = .returned (.int .i64 M.sz) ∧ Below w.heap.size w w'
  down : ∀ {S : Nat → Prop} {w : World} {b : Nat} {M : DM}, DS S w b M → Calls Tryd.prog 27 #[.pointer (some ⟨b, 0, none⟩)] w fun e w' => e = .returned (.bool M.off) ∧ Below w.heap.size w w'
  cached : ∀ {S : Nat → Prop} {w : World} {b : Nat} {M : DM}, DS S w b M → Calls Tryd.prog 20 #[.pointer (some ⟨b, 0, none⟩)] w fun e w' => e = .returned (.int .i64 M.cache.length) ∧ Below w.heap.size w w'
  downQ : ∀ {S : Nat → Prop} {w : World} {b : Nat} {M : DM}, DS S w b M → Calls Tryd.prog 27 #[.pointer (some ⟨b, 0, none⟩)] w fun e w' => e = .returned (.bool M.off) ∧ ∃ m, w' = w.drewN m
  cachedQ : ∀ {S : Nat → Prop} {w : World} {b : Nat} {M : DM}, DS S w b M → Calls Tryd.prog 20 #[.pointer (some ⟨b, 0, none⟩)] w fun e w' => e = .returned (.int .i64 M.cache.length) ∧ ∃ m, w' = w.drewN m
  read : ∀ {S : Nat → Prop} {w : World} {b : Nat} {M : DM} (s : Int), R64 s → M.cache.length ≤ 1000000 → DS S w b M → Calls Tryd.prog 31 #[.pointer (some ⟨b, 0, none⟩), .int .i64 s] w fun e w' => RdQ (readF M s).1 (readF M s).2 w e w' ∧ ∀ x n c, e = .returned (.tuple #[.slice x n c, .int .i64 (readF M s).2]) → w'.ownsRow w.heap.size 5 1 (.slice x n c) n (by8 (readF M s).1)
  write : ∀ {S : Nat → Prop} {w : World} {b : Nat} {M : DM} (U : Nat → Prop) (s : Int), R64 s → ∀ (bo : Option Addr) (bn bc : Nat) (l : List Int), M.cache.length < 1000000 → CR U w (.slice bo bn bc) l → (∀ k, U k → ¬ S k) → DS S w b M → Calls Tryd.prog 24 #[.pointer (some ⟨b, 0, none⟩), .int .i64 s, .slice bo bn bc] w fun e w' => e = .returned (.int .i64 (writeF M s l).1) ∧ DS (Nw S w w') w' b (writeF M s l).2 ∧ Kept S w w'
  sync : ∀ {S : Nat → Prop} {w : World} {b : Nat} {M : DM}, M.cache.length ≤ 1000000 → DS S w b M → Calls Tryd.prog 26 #[.pointer (some ⟨b, 0, none⟩)] w fun e w' => e = .returned (.int .i64 (syncF M).1) ∧ DS (Nw S w w') w' b (syncF M).2 ∧ Kept S w w'
  fail : ∀ {S : Nat → Prop} {w : World} {b : Nat} {M : DM} (n : Int), R64 n → DS S w b M → Calls Tryd.prog 25 #[.pointer (some ⟨b, 0, none⟩), .int .i64 n] w fun e w' => e = .returned (.tuple #[]) ∧ DS (Nw S w w') w' b (failF M n) ∧ Kept S w w'
  crash : ∀ {S : Nat → Prop} {w : World} {b : Nat} {M : DM} (U : Nat → Prop) (ko : Option Addr) (kn kc : Nat) (keep : List Bool), M.cache.length ≤ 1000000 → Rd w (.slice ko kn kc) (bls keep) ∧ (0 < (bls keep).length → In U (.slice ko kn kc)) → (∀ k, U k → ¬ S k) → DS S w b M → Calls Tryd.prog 28 #[.pointer (some ⟨b, 0, none⟩), .slice ko kn kc] w fun e w' => e = .returned (.tuple #[]) ∧ DS (Nw S w w') w' b (crashF M keep) ∧ Kept S w w'
/-- A disk of a law's run: all of it lies between B and c. -/
def Lv (I : PI) (B c : Nat) (w : World) (b : Nat) (M : DM) : Prop := ∃ S, I.DS S w b M ∧ ∀ k, S k → B ≤ k ∧ k < c
section
variable {I : PI} {B c : Nat} {w w' : World} {b : Nat} {M : DM}
theorem Lv.bel (h : Lv I B c w b M) (hb : Below c w w') : Lv I B c w' b M := by
  obtain ⟨S, h1, h2⟩ := h
  exact ⟨S, I.keep h1 ⟨hb.size, fun k hk _ => hb.block k (h2 k hk).2⟩, h2⟩
theorem Lv.up (h : Lv I B c w b M) {c2 : Nat} (hc : c ≤ c2) : Lv I B c2 w b M := by
  obtain ⟨S, h1, h2⟩ := h
  exact ⟨S, h1, fun k hk => ⟨(h2 k hk).1, by have := (h2 k hk).2; omega⟩⟩
theorem lv_nw {S : Nat → Prop} {M2 : DM} (h2 : ∀ k, S k → B ≤ k ∧ k < c) (hB : B ≤ w.heap.size) (d : I.DS (Nw S w w') w' b M2) (k : Kept S w w') : Lv I B w'.heap.size w' b M2 ∧ Below B w w' :=
  ⟨⟨_, I.lt d, fun q hq => ⟨by rcases hq.1 with h | h; exact (h2 q h).1; have := h.1; omega, hq.2⟩⟩, k.below hB fun q hq => (h2 q hq).1⟩
/-- The rows that Write and Crash may be given: from before the run, or behind the disk. -/
abbrev Arg (B c : Nat) : Nat → Prop := fun k => k < B ∨ c ≤ k
theorem Lv.write (h : Lv I B c w b M) (hB : B ≤ w.heap.size) (s : Int) (hs : R64 s) {bo : Option Addr} {bn bc : Nat} {l : List Int} (hc : M.cache.length < 1000000) (hin : CR (Arg B c) w (.slice bo bn bc) l) :
    Calls Tryd.prog 24 #[.pointer (some ⟨b, 0, none⟩), .int .i64 s, .slice bo bn bc] w fun e w' => e = .returned (.int .i64 (writeF M s l).1) ∧ Lv I B w'.heap.size w' b (writeF M s l).2 ∧ Below B w w' := by
  obtain ⟨S, h1, h2⟩ := h
  exact (I.write (Arg B c) s hs bo bn bc l hc hin (fun k hk hS => by have := h2 k hS; rcases hk with h | h <;> omega) h1).mono fun e w' ⟨q1, q2, q3⟩ => ⟨q1, lv_nw h2 hB q2 q3⟩
theorem Lv.crash (h : Lv I B c w b M) (hB : B ≤ w.heap.size) {ko : Option Addr} {kn kc : Nat} {keep : List Bool} (hc : M.cache.length ≤ 1000000) (hin : Rd w (.slice ko kn kc) (bls keep) ∧ (0 < (bls keep).length → In (Arg B c) (.slice ko kn kc))) :
    Calls Tryd.prog 28 #[.pointer (some ⟨b, 0, none⟩), .slice ko kn kc] w fun e w' => e = .returned (.tuple #[]) ∧ Lv I B w'.heap.size w' b (crashF M keep) ∧ Below B w w' := by
  obtain ⟨S, h1, h2⟩ := h
  exact (I.crash (Arg B c) ko kn kc keep hc hin (fun k hk hS => by have := h2 k hS; rcases hk with h | h <;> omega) h1).mono fun e w' ⟨q1, q2, q3⟩ => ⟨q1, lv_nw h2 hB q2 q3⟩
theorem Lv.sync (h : Lv I B c w b M) (hB : B ≤ w.heap.size) (hc : M.cache.length ≤ 1000000) :
    Calls Tryd.prog 26 #[.pointer (some ⟨b, 0, none⟩)] w fun e w' => e = .returned (.int .i64 (syncF M).1) ∧ Lv I B w'.heap.size w' b (syncF M).2 ∧ Below B w w' := by
  obtain ⟨S, h1, h2⟩ := h
  exact (I.sync hc h1).mono fun e w' ⟨q1, q2, q3⟩ => ⟨q1, lv_nw h2 hB q2 q3⟩
theorem Lv.fail (h : Lv I B c w b M) (hB : B ≤ w.heap.size) (n : Int) (hn : R64 n) :
    Calls Tryd.prog 25 #[.pointer (some ⟨b, 0, none⟩), .int .i64 n] w fun e w' => e = .returned (.tuple #[]) ∧ Lv I B w'.heap.size w' b (failF M n) ∧ Below B w w' := by
  obtain ⟨S, h1, h2⟩ := h
  exact (I.fail n hn h1).mono fun e w' ⟨q1, q2, q3⟩ => ⟨q1, lv_nw h2 hB q2 q3⟩
end
end Go.Proofs.YtlffiebnieakjaaDoor

/- The program's disk: New; the interface that the laws ask, filled. Bounds on sizes alone. -/
namespace Go.Proofs.YtlffiebnieakjaaDoor
open Go.RowKit Go.Maps
set_option maxRecDepth 100000
set_option maxHeartbeats 3200000
namespace Dg
theorem dk_start (w : World) (n sz : Nat) (hn : n ≤ 65536) (hz : sz ≤ 4096) {W : World} (e0 : W.heap[w.heap.size]? = some (.map #[] 0)) (e1 : W.heap[w.heap.size + 1]? = some (.map #[] 0)) (e2 : W.heap[w.heap.size + 2]? = some (.cells [.int .i64 n, .int .i64 sz, .map (some w.heap.size), .slice none 0 0, .map (some (w.heap.size + 1)), .bool false, .bool false, .int .i64 0].toArray 67 (0, 0))) :
    DK (fun k => w.heap.size ≤ k) W (w.heap.size + 2) (newF n sz) w.heap.size (w.heap.size + 1) (.slice none 0 0) (.map []) (.map []) (fun _ => none) false 0 [] := by
  have hl : (newF n sz).secs.length = n := by simp [newF]
  have hm : ∀ b, W.heap[b]? = some (.map #[] 0) → W.ownsMap Tryd.prog 3 (RS sz) b 0 (.map []) := fun b hb => by
    obtain ⟨es, clock, h1, h2, h3, h4⟩ := World.ownsMap_made (H := Unit) w Tryd.prog 3 (RS sz)
    rw [(heap_alloc_new w (.map #[] 0))] at h1
    cases h1
    exact ⟨_, _, hb, h2, h3, h4⟩
  have hr : ∀ Q b, W.heap[b]? = some (.map #[] 0) → MapR Q W sz n b (.map []) (fun _ => none) := fun Q b hb =>
    ⟨hm b hb, fun s _ => rfl, fun s l v ps _ hf => (by cases hf), fun k hk => (by cases hk)⟩
  refine ⟨by show w.heap.size ≤ _; omega, ⟨Nat.le_refl _, by omega⟩, ⟨by show w.heap.size ≤ _; omega, by omega, by omega⟩, by rw [hl]; exact e2, by rw [hl]; exact hr _ _ e0, fun s hs => ?_, by rw [hl]; exact hr _ _ e1, World.ownsRow_nil _ _ _ _, fun k hk => by simp [Value.ownBlock] at hk, fun i p q hp => by simp at hp, newF_ok n sz hn hz, Or.inr ⟨rfl, rfl⟩⟩
  rw [hl] at hs
  simp [newF, hs]
theorem new_yes (n sz : Nat) (h1 : 1 ≤ n) (h2 : n ≤ 65536) (h3 : 16 ≤ sz) (h4 : sz ≤ 4096) (w : World) : Calls Tryd.prog 29 #[.int .i64 n, .int .i64 sz] w fun e w' => ∃ b, e = .returned (.tuple #[.pointer (some ⟨b, 0, none⟩), .int .i64 0]) ∧ DS (fun k => w.heap.size ≤ k ∧ k < w'.heap.size) w' b (newF n sz) ∧ Below w.heap.size w w' := by
  have d0 : decide ((n : Int) < 1) = false := by simp; omega
  have d1 : decide ((n : Int) > 65536) = false := by simp; omega
  have d2 : decide ((65536 : Int) < (n : Int)) = false := by simp; omega
  have d3 : decide ((sz : Int) < 16) = false := by simp; omega
  have d4 : decide ((sz : Int) > 4096) = false := by simp; omega
  have d5 : decide ((4096 : Int) < (sz : Int)) = false := by simp; omega
  have hmm := @run_makeMap Tryd.prog
  go_enter Tryd.func29, Tryd.ntmps29
  go_wp2
  go_ret2
  have b0 := bel_alloc w (.map #[] 0)
  have b1 := bel_alloc (w.alloc (.map #[] 0)) (.map #[] 0)
  have b2 := bel_alloc ((w.alloc (.map #[] 0)).alloc (.map #[] 0)) (.cells #[.int .i64 n, .int .i64 sz, .map (some w.heap.size), .slice none 0 0, .map (some (w.heap.size + 1)), .bool false, .bool false, .int .i64 0] 67)
  have n0 := heap_alloc_new w (.map #[] 0)
  have n1 := heap_alloc_new (w.alloc (.map #[] 0)) (.map #[] 0)
  have n2 := heap_alloc_new ((w.alloc (.map #[] 0)).alloc (.map #[] 0)) (.cells #[.int .i64 n, .int .i64 sz, .map (some w.heap.size), .slice none 0 0, .map (some (w.heap.size + 1)), .bool false, .bool false, .int .i64 0] 67)
  have s1 : (w.alloc (.map #[] 0)).heap.size = w.heap.size + 1 := by simp
  have s2 : ((w.alloc (.map #[] 0)).alloc (.map #[] 0)).heap.size = w.heap.size + 2 := by simp
  rw [s1] at n1 b1
  rw [s2] at n2 b2
  have D := dk_start w n sz h2 h4 ((b2.block _ (by omega)).trans ((b1.block _ (by omega)).trans n0)) ((b2.block _ (by omega)).trans n1) n2
  exact ⟨w.heap.size + 2, rfl, ⟨_, _, _, _, _, _, _, _, _, D.lt⟩, b0.trans ((b1.mono (by omega)).trans (b2.mono (by omega)))⟩
theorem new_no (n sz : Int) (hn : R64 n) (hz : R64 sz) (h : ¬((1 ≤ n ∧ n ≤ 65536) ∧ 16 ≤ sz ∧ sz ≤ 4096)) (w : World) : Calls Tryd.prog 29 #[.int .i64 n, .int .i64 sz] w fun e w' => e = .returned (.tuple #[.pointer none, .int .i64 1]) ∧ Below w.heap.size w w' := by
  by_cases h1 : n < 1
  · have d0 : decide (n < 1) = true := by simpa using h1
    clear h
    go_enter Tryd.func29, Tryd.ntmps29
    go_wp2
    go_ret2
    exact ⟨rfl, Below.refl _ _⟩
  have d0 : decide (n < 1) = false := by simpa using h1
  by_cases h2 : n > 65536
  · have d1 : decide (n > 65536) = true := by simpa using h2
    have d2 : decide ((65536 : Int) < n) = true := by simpa using h2
    clear h
    go_enter Tryd.func29, Tryd.ntmps29
    go_wp2
    go_ret2
    exact ⟨rfl, Below.refl _ _⟩
  have d1 : decide (n > 65536) = false := by simpa using h2
  have d2 : decide ((65536 : Int) < n) = false := by simpa using h2
  by_cases h3 : sz < 16
  · have d3 : decide (sz < 16) = true := by simpa using h3
    clear h
    go_enter Tryd.func29, Tryd.ntmps29
    go_wp2
    go_ret2
    exact ⟨rfl, Below.refl _ _⟩
  have d3 : decide (sz < 16) = false := by simpa using h3
  have h4 : sz > 4096 := by omega
  have d4 : decide (sz > 4096) = true := by simpa using h4
  have d5 : decide ((4096 : Int) < sz) = true := by simpa using h4
  clear h
  go_enter Tryd.func29, Tryd.ntmps29
  go_wp2
  go_ret2
  exact ⟨rfl, Below.refl _ _⟩
end Dg
open Dg in
/-- The program's disk. -/
def IG : PI where
  DS := Dg.DS
  keep := fun ⟨_, _, _, _, _, _, _, _, _, h⟩ k => ⟨_, _, _, _, _, _, _, _, _, h.keep k⟩
  mono := fun ⟨_, _, _, _, _, _, _, _, _, h⟩ k => ⟨_, _, _, _, _, _, _, _, _, h.mono k⟩
  lt := fun ⟨_, _, _, _, _, _, _, _, _, h⟩ => ⟨_, _, _, _, _, _, _, _, _, h.lt⟩
  ok := fun ⟨_, _, _, _, _, _, _, _, _, h⟩ => h.ok
  newY := new_yes
  newN := fun n sz hn hz h w => new_no n sz hn hz h w
  sectors := fun ⟨_, _, _, _, _, _, _, _, _, h⟩ => sectors_any _ _ _ _ _ _ _ _ _ _ _ _ _ h
  size := fun ⟨_, _, _, _, _, _, _, _, _, h⟩ => size_any _ _ _ _ _ _ _ _ _ _ _ _ _ h
  down := fun ⟨_, _, _, _, _, _, _, _, _, h⟩ => (down_any _ _ _ _ _ _ _ _ _ _ _ _ _ h).mono fun e w' ⟨q1, m, q2⟩ => ⟨q1, by rw [q2]; exact bel_drewN (Below.refl _ _) _⟩
  cached := fun ⟨_, _, _, _, _, _, _, _, _, h⟩ => (cached_any _ _ _ _ _ _ _ _ _ _ _ _ _ h).mono fun e w' ⟨q1, m, q2⟩ => ⟨q1, by rw [q2]; exact bel_drewN (Below.refl _ _) _⟩
  downQ := fun ⟨_, _, _, _, _, _, _, _, _, h⟩ => down_any _ _ _ _ _ _ _ _ _ _ _ _ _ h
  cachedQ := fun ⟨_, _, _, _, _, _, _, _, _, h⟩ => cached_any _ _ _ _ _ _ _ _ _ _ _ _ _ h
  read := fun {S w b M} s hs hc ⟨bd, bl, vc, Dd, Dl, fd, cg, cd, ps, h⟩ => (read_any S w b M bd bl vc Dd Dl fd cg cd ps s hs h).mono fun e w' q => by
    rcases q with ⟨n, rfl, q1, q2⟩ | ⟨rfl, q1, q2, q3, q4⟩
    · rw [q1]
      refine ⟨⟨none, 0, 0, rfl, ⟨none, 0, rfl, Nat.le_refl _, by omega, fun h => by simp [by8] at h⟩, q2⟩, fun x m c e => ?_⟩
      simp only [Ending.returned.injEq, Value.tuple.injEq, Array.mk.injEq, List.cons.injEq, Value.slice.injEq] at e
      obtain ⟨⟨rfl, rfl, rfl⟩, _⟩ := e
      exact World.ownsRow_nil _ _ _ _
    · have hz := h.ok.sz
      have hrd : Rd w' (.slice (some ⟨w.heap.size, 0, none⟩) M.sz M.sz) (by8 (readF M s).1) := ⟨some ⟨w.heap.size, 0, none⟩, M.sz, by rw [by8_length, q2], by rw [by8_length, q2]; exact Nat.le_refl _, by omega, fun _ => ⟨_, 0, rfl, lt_of_block q3, fun i t ht => by rw [Nat.zero_add]; exact cell_blk q3 ht⟩⟩
      refine ⟨⟨_, _, _, by rw [q1], hrd, q4⟩, fun x m c e => ?_⟩
      simp only [Ending.returned.injEq, Value.tuple.injEq, Array.mk.injEq, List.cons.injEq, Value.slice.injEq] at e
      obtain ⟨⟨rfl, rfl, rfl⟩, _⟩ := e
      exact ⟨by rw [by8_length, q2, Nat.mul_one], .inr ⟨_, _, _, rfl, Nat.le_refl _, q3, Nat.le_refl _, by unfold maxLen; omega, by simp [by8_length, q2], by simp only [Nat.mul_one]; exact List.take_of_length_le (by rw [by8_length, q2]; exact Nat.le_refl _)⟩⟩
  write := fun {S w b M} U s hs bo bn bc l hc hin hU ⟨bd, bl, vc, Dd, Dl, fd, cg, cd, ps, h⟩ => write_any S w b M bd bl vc Dd Dl fd cg cd ps U s hs bo bn bc l hc hin hU h
  sync := fun {S w b M} _ ⟨bd, bl, vc, Dd, Dl, fd, cg, cd, ps, h⟩ => sync_any S w b M bd bl vc Dd Dl fd cg cd ps h
  fail := fun {S w b M} n hn ⟨bd, bl, vc, Dd, Dl, fd, cg, cd, ps, h⟩ => (fail_any S w b M bd bl vc Dd Dl fd cg cd ps n hn h).mono fun e w' ⟨q1, ⟨bd, bl, vc, Dd, Dl, fd, cg, cd, ps, q2⟩, q3⟩ => ⟨q1, ⟨_, _, _, _, _, _, _, _, _, q2.mono fun k hk => Or.inl hk⟩, q3.mono fun k e => by rw [e]; exact h.sb⟩
  crash := fun {S w b M} U ko kn kc keep hc hin hU ⟨bd, bl, vc, Dd, Dl, fd, cg, cd, ps, h⟩ => crash_any S w b M bd bl vc Dd Dl fd cg cd ps U ko kn kc keep hc hin hU h
end Go.Proofs.YtlffiebnieakjaaDoor

/- What a sector may hold behind a crash, as mathematics. -/
namespace Go.Proofs.YtlffiebnieakjaaDoor

/-- The writes to a sector, in order. -/
def wrs (c : List (Nat × List Int)) (s : Nat) : List (List Int) := (c.filter fun p => p.1 == s).map (·.2)
def mayF (M : DM) (s : Nat) : List (List Int) := M.secs.getD s [] :: wrs M.cache s
theorem mayF_pos (M : DM) (s : Nat) : 0 < (mayF M s).length := by simp [mayF]
theorem mayF_len (M : DM) (s : Nat) : (mayF M s).length ≤ M.cache.length + 1 := by
  simp only [mayF, wrs, List.length_cons, List.length_map]
  have := List.length_filter_le (fun p : Nat × List Int => p.1 == s) M.cache
  omega
theorem may_same {M N : DM} (h1 : N.secs = M.secs) (h2 : N.cache = M.cache) (s : Nat) : mayF N s = mayF M s := by rw [mayF, mayF, h1, h2]
theorem may_new (n z s : Nat) (h : s < n) : mayF (newF n z) s = [List.replicate z 0] := by
  simp [mayF, newF, wrs, List.getD_eq_getElem?_getD, h]
theorem may_write {M : DM} {x : Int} {l : List Int} (h : (writeF M x l).1 = 0) : (0 ≤ x ∧ x < M.secs.length) ∧ ∀ s, mayF (writeF M x l).2 s = if s = x.toNat then mayF M s ++ [l] else mayF M s := by
  unfold writeF at h ⊢
  split
  · rename_i hn; rw [if_pos hn] at h; simp at h
  · rename_i hn
    rw [if_neg hn] at h
    split
    · rename_i hs; rw [if_pos hs] at h; simp at h
    · have hf : M.fits x = true := by simpa using (not_or.1 hn).1
      simp only [DM.fits, decide_eq_true_eq] at hf
      refine ⟨hf, fun s => ?_⟩
      show (stepF M).2.secs.getD s [] :: wrs (M.cache ++ [(x.toNat, l)]) s = _
      rw [(stepF_same M).2.1]
      simp only [wrs, List.filter_append, List.map_append, mayF]
      by_cases e : s = x.toNat
      · subst e; simp
      · have e2 : (x.toNat == s) = false := beq_eq_false_iff_ne.2 fun h => e h.symm
        simp [e, e2]
theorem may_write_ne {M : DM} {x : Int} {l : List Int} (h : (writeF M x l).1 ≠ 0) (s : Nat) : mayF (writeF M x l).2 s = mayF M s := by
  unfold writeF at h ⊢
  split
  · rfl
  · rename_i hn
    rw [if_neg hn] at h
    split
    · exact may_same (stepF_same M).2.1 (stepF_same M).2.2 s
    · rename_i hs; rw [if_neg hs] at h; simp at h
theorem putF_last (s : Nat) : ∀ (c : List (Nat × List Int)) (S : List (List Int)), s < S.length → (putF S c).getD s [] = (S.getD s [] :: wrs c s).getLast (by simp)
  | [], S, _ => by simp [putF, wrs]
  | p :: r, S, h => by
    show (putF (S.set p.1 p.2) r).getD s [] = _
    rw [putF_last s r (S.set p.1 p.2) (by rwa [List.length_set])]
    by_cases e : p.1 = s
    · have e2 : wrs (p :: r) s = p.2 :: wrs r s := by simp [wrs, e]
      have e3 : (S.set p.1 p.2).getD s [] = p.2 := by rw [List.getD_eq_getElem?_getD, e, List.getElem?_set_self h]; rfl
      simp only [e2, e3]
      rw [List.getLast_cons_cons]
    · have e2 : wrs (p :: r) s = wrs r s := by simp [wrs, e]
      have e3 : (S.set p.1 p.2).getD s [] = S.getD s [] := by rw [List.getD_eq_getElem?_getD, List.getElem?_set_ne e, List.getD_eq_getElem?_getD]
      simp only [e2, e3]
theorem may_sync {M : DM} (h : (syncF M).1 = 0) {s : Nat} (hs : s < M.secs.length) : mayF (syncF M).2 s = [(mayF M s).getLast (by simp [mayF])] := by
  unfold syncF at h ⊢
  split
  · rename_i hn; rw [if_pos hn] at h; simp at h
  · show (putF M.secs M.cache).getD s [] :: wrs [] s = _
    rw [putF_last s _ _ hs]
    rfl
theorem may_sync_ne {M : DM} (h : (syncF M).1 ≠ 0) (s : Nat) : mayF (syncF M).2 s = mayF M s := by
  unfold syncF at h ⊢
  split
  · exact may_same (stepF_same M).2.1 (stepF_same M).2.2 s
  · rename_i hn; rw [if_neg hn] at h; simp at h
theorem may_fail (M : DM) (n : Int) (s : Nat) : mayF (failF M n) s = mayF M s := by
  unfold failF
  split <;> rfl
theorem keepF_may (S : List (List Int)) (c : List (Nat × List Int)) (kp : List Bool) (s : Nat) (hs : s < S.length) : ∀ k, (keepF S c kp k).getD s [] ∈ S.getD s [] :: wrs c s
  | 0 => by simp [keepF]
  | k + 1 => by
    rw [keepF]
    split
    · rename_i p hp _
      by_cases e : p.1 = s
      · rw [show ((keepF S c kp k).set p.1 p.2).getD s [] = p.2 by rw [List.getD_eq_getElem?_getD, e, List.getElem?_set_self (by rwa [keepF_len])]; rfl]
        refine List.mem_cons_of_mem _ ?_
        simp only [wrs, List.mem_map, List.mem_filter]
        exact ⟨p, ⟨List.mem_of_getElem? hp, by simp [e]⟩, rfl⟩
      · rw [show ((keepF S c kp k).set p.1 p.2).getD s [] = (keepF S c kp k).getD s [] by rw [List.getD_eq_getElem?_getD, List.getElem?_set_ne e, ← List.getD_eq_getElem?_getD]]
        exact keepF_may S c kp s hs k
    · exact keepF_may S c kp s hs k
theorem may_crash (M : DM) (kp : List Bool) {s : Nat} (hs : s < M.secs.length) : ∃ b, readF (crashF M kp) s = (b, 0) ∧ b ∈ mayF M s := by
  have hlen : (crashF M kp).secs.length = M.secs.length := by show (keepF _ _ _ _).length = _; rw [keepF_len]
  have hf : (crashF M kp).fits s = true := by simp only [DM.fits, decide_eq_true_eq, hlen]; omega
  refine ⟨_, ?_, keepF_may M.secs M.cache kp s hs (min M.cache.length kp.length)⟩
  rw [readF, if_neg (by rw [hf]; simp), if_neg (by simp [crashF])]
  rfl

end Go.Proofs.YtlffiebnieakjaaDoor

/- A disk's mathematics: bytes in range, a disk that does not fail, its cache carried out. Bounds on sizes alone. -/
namespace Go.Proofs.YtlffiebnieakjaaDoor
open Go.RowKit
set_option maxRecDepth 100000

theorem sec_len {M : DM} (h : M.Ok) {s : Nat} (hs : s < M.secs.length) : (M.secs.getD s []).length = M.sz := by
  rw [List.getD_eq_getElem?_getD, List.getElem?_eq_getElem hs]
  exact h.con _ (List.getElem_mem hs)
theorem step_ok {M : DM} (h : (stepF M).1 = true) : (stepF M).2.off = false ∧ M.off = false := by
  unfold stepF at h ⊢
  split at h
  · cases h
  · rename_i hn
    rw [if_neg hn]
    have : M.off = false := by
      cases e : M.off
      · rfl
      · exact absurd (Or.inl e) hn
    exact ⟨this, this⟩
theorem write_ok {M : DM} {s : Int} {l : List Int} (h : (writeF M s l).1 = 0) : (writeF M s l).2.off = false ∧ (writeF M s l).2.secs = M.secs ∧ (writeF M s l).2.cache = M.cache ++ [(s.toNat, l)] ∧ (writeF M s l).2.sz = M.sz := by
  unfold writeF at h ⊢
  split
  · rename_i hn; rw [if_pos hn] at h; simp at h
  · rename_i hn
    rw [if_neg hn] at h
    split
    · rename_i hs; rw [if_pos hs] at h; simp at h
    · rename_i hs
      have hs2 : (stepF M).1 = true := by cases e : (stepF M).1; exact absurd e hs; rfl
      exact ⟨(step_ok hs2).1, (stepF_same M).2.1, rfl, (stepF_same M).1⟩
theorem sync_ok {M : DM} (h : (syncF M).1 = 0) : (syncF M).2.off = false ∧ (syncF M).2.secs = putF M.secs M.cache ∧ (syncF M).2.cache = [] ∧ (syncF M).2.sz = M.sz := by
  unfold syncF at h ⊢
  split
  · rename_i hs; rw [if_pos hs] at h; simp at h
  · rename_i hs
    have hs2 : (stepF M).1 = true := by cases e : (stepF M).1; exact absurd e hs; rfl
    exact ⟨(step_ok hs2).1, rfl, rfl, (stepF_same M).1⟩
theorem may_clean {M : DM} (h : M.cache = []) (s : Nat) : mayF M s = [M.secs.getD s []] := by rw [mayF, h]; rfl
theorem clean_may {M : DM} (h : M.cache = []) {s : Nat} {l : List Int} {x : List (List Int)} (e : mayF M s = x ++ [l]) : M.secs.getD s [] = l := by
  rw [may_clean h] at e
  cases x with
  | nil => simpa using e
  | cons a r => simp at e
theorem getD_set {S : List (List Int)} {s : Nat} {l : List Int} (h : s < S.length) : (S.set s l).getD s [] = l := by
  rw [List.getD_eq_getElem?_getD, List.getElem?_set_self h]; rfl
theorem getD_ne {S : List (List Int)} {s t : Nat} {l : List Int} (h : s ≠ t) : (S.set s l).getD t [] = S.getD t [] := by
  rw [List.getD_eq_getElem?_getD, List.getElem?_set_ne h, ← List.getD_eq_getElem?_getD]
/-- A disk that does not fail. -/
def NF (M : DM) : Prop := M.off = false ∧ M.cnt = -1
theorem nf_step {M : DM} (h : NF M) : (stepF M).1 = true ∧ NF (stepF M).2 := by
  unfold stepF
  rw [if_neg (by rw [h.1, h.2]; simp)]
  exact ⟨rfl, h.1, by show (if 0 < M.cnt then M.cnt - 1 else M.cnt) = -1; rw [h.2]; rfl⟩
theorem nf_write {M : DM} (h : NF M) {s : Nat} {l : List Int} (hs : s < M.secs.length) (hl : l.length = M.sz) : (writeF M s l).1 = 0 ∧ NF (writeF M s l).2 := by
  have hf : M.fits s = true := by simp only [DM.fits, decide_eq_true_eq]; omega
  unfold writeF
  rw [if_neg (by rw [hf]; simp [hl]), if_neg (by rw [(nf_step h).1]; simp)]
  exact ⟨rfl, (nf_step h).2⟩
theorem nf_sync {M : DM} (h : NF M) : (syncF M).1 = 0 ∧ NF (syncF M).2 := by
  unfold syncF
  rw [if_neg (by rw [(nf_step h).1]; simp)]
  exact ⟨rfl, (nf_step h).2⟩
/-- All contents are bytes. -/
def RngM (M : DM) : Prop := (∀ l ∈ M.secs, ∀ x ∈ l, 0 ≤ x ∧ x ≤ 255) ∧ ∀ p ∈ M.cache, ∀ x ∈ p.2, 0 ≤ x ∧ x ≤ 255
theorem rng_step {M : DM} (h : RngM M) : RngM (stepF M).2 := by
  obtain ⟨e1, e2, e3⟩ := stepF_same M
  exact ⟨by rw [e2]; exact h.1, by rw [e3]; exact h.2⟩
theorem rng_write {M : DM} (h : RngM M) {s : Int} {l : List Int} (hl : ∀ x ∈ l, 0 ≤ x ∧ x ≤ 255) : RngM (writeF M s l).2 := by
  unfold writeF
  split
  · exact h
  · split
    · exact rng_step h
    · have k := rng_step h
      refine ⟨k.1, fun p hp => ?_⟩
      rcases List.mem_append.1 hp with h1 | h1
      · exact h.2 p h1
      · rw [List.mem_singleton.1 h1]; exact hl
theorem rng_put : ∀ (c : List (Nat × List Int)) (S : List (List Int)), (∀ l ∈ S, ∀ x ∈ l, 0 ≤ x ∧ x ≤ 255) → (∀ p ∈ c, ∀ x ∈ p.2, 0 ≤ x ∧ x ≤ 255) → ∀ l ∈ putF S c, ∀ x ∈ l, 0 ≤ x ∧ x ≤ 255
  | [], S, h, _, l, hl => h l hl
  | p :: r, S, h, hc, l, hl => rng_put r (S.set p.1 p.2) (fun y hy => by rcases mem_set_of hy with h1 | h1; exact h y h1; rw [h1]; exact hc p (by simp)) (fun q hq => hc q (by simp [hq])) l hl
theorem rng_sync {M : DM} (h : RngM M) : RngM (syncF M).2 := by
  unfold syncF
  split
  · exact rng_step h
  · exact ⟨rng_put _ _ h.1 h.2, fun p hp => by simp at hp⟩
theorem rng_keep (S : List (List Int)) (c : List (Nat × List Int)) (keep : List Bool) (h : ∀ l ∈ S, ∀ x ∈ l, 0 ≤ x ∧ x ≤ 255) (hc : ∀ p ∈ c, ∀ x ∈ p.2, 0 ≤ x ∧ x ≤ 255) : ∀ k, ∀ l ∈ keepF S c keep k, ∀ x ∈ l, 0 ≤ x ∧ x ≤ 255
  | 0, l, hl => h l hl
  | k + 1, l, hl => by
    rw [keepF] at hl
    split at hl
    · rename_i p e _
      rcases mem_set_of hl with h1 | h1
      · exact rng_keep S c keep h hc k l h1
      · rw [h1]; exact hc p (List.mem_of_getElem? e)
    · exact rng_keep S c keep h hc k l hl
theorem rng_crash {M : DM} (h : RngM M) (keep : List Bool) : RngM (crashF M keep) := ⟨rng_keep _ _ _ h.1 h.2 _, fun p hp => by simp [crashF] at hp⟩
theorem rng_fail {M : DM} (h : RngM M) (n : Int) : RngM (failF M n) := by
  unfold failF
  split
  · exact h
  · exact h
theorem rng_new (n z : Nat) : RngM (newF n z) := ⟨fun l hl x hx => by
  simp only [newF, List.mem_replicate] at hl
  rw [hl.2, List.mem_replicate] at hx
  omega, fun p hp => by simp [newF] at hp⟩
/-- What Read gives of a clean disk whose power is on. -/
theorem read_clean {M : DM} (hc : M.cache = []) (ho : M.off = false) {s : Nat} (hs : s < M.secs.length) : (readF M (s : Int)).1 = M.secs.getD s [] := by
  have hf : M.fits s = true := by simp only [DM.fits, decide_eq_true_eq]; omega
  rw [readF, if_neg (by rw [hf]; simp), if_neg (by rw [ho]; simp)]
  show M.content (s : Int).toNat = _
  rw [Int.toNat_natCast, DM.content, hc]
  rfl
theorem rng_get {M : DM} (h : RngM M) (s : Nat) : ∀ x ∈ M.secs.getD s [], 0 ≤ x ∧ x ≤ 255 := fun x hx => by
  rw [List.getD_eq_getElem?_getD] at hx
  cases e : M.secs[s]? with
  | none => rw [e] at hx; simp at hx
  | some l => rw [e] at hx; exact h.1 l (List.mem_of_getElem? e) x hx
/-- An operation that was interrupted leaves the disk without power. -/
theorem step_bad {M : DM} (h : (stepF M).1 = false) : (stepF M).2.off = true := by
  unfold stepF at h ⊢
  split
  · rfl
  · rename_i hn; rw [if_neg hn] at h; cases h
theorem write_off {M : DM} {s : Nat} {l : List Int} (hs : s < M.secs.length) (hl : l.length = M.sz) (h : (writeF M s l).1 ≠ 0) : (writeF M s l).2.off = true := by
  have hf : M.fits s = true := by simp only [DM.fits, decide_eq_true_eq]; omega
  unfold writeF at h ⊢
  rw [if_neg (by rw [hf]; simp [hl])] at h ⊢
  split
  · rename_i h2; exact step_bad h2
  · rename_i h2; rw [if_neg h2] at h; simp at h
theorem sync_off {M : DM} (h : (syncF M).1 ≠ 0) : (syncF M).2.off = true := by
  unfold syncF at h ⊢
  split
  · rename_i h2; exact step_bad h2
  · rename_i h2; rw [if_neg h2] at h; simp at h
/-- The disk, if its cache were written. -/
def flat (M : DM) : DM := { M with secs := putF M.secs M.cache, cache := [] }
theorem flat_clean {M : DM} (h : M.cache = []) : flat M = M := by
  obtain ⟨a, b, c, d, e⟩ := M
  simp only at h
  subst h
  rfl
theorem putF_append (S : List (List Int)) (a b : List (Nat × List Int)) : putF S (a ++ b) = putF (putF S a) b := by unfold putF; rw [List.foldl_append]
theorem flat_len (M : DM) : (flat M).secs.length = M.secs.length := putF_len _ _
theorem nf_flat {M : DM} (h : NF M) : NF (flat M) := h
theorem nf_step_eq {M : DM} (h : NF M) : stepF M = (true, M) := by
  unfold stepF
  rw [if_neg (by rw [h.1, h.2]; simp), h.2]
  obtain ⟨a, b, c, d, e⟩ := M
  have : e = -1 := h.2
  subst this
  rfl
theorem nf_write_eq {M : DM} (h : NF M) {s : Nat} {l : List Int} (hs : s < M.secs.length) (hl : l.length = M.sz) : writeF M s l = (0, { M with cache := M.cache ++ [(s, l)] }) := by
  have hf : M.fits s = true := by simp only [DM.fits, decide_eq_true_eq]; omega
  unfold writeF
  rw [if_neg (by rw [hf]; simp [hl]), nf_step_eq h, if_neg (by simp), Int.toNat_natCast]
theorem nf_sync_eq {M : DM} (h : NF M) : syncF M = (0, flat M) := by
  unfold syncF
  rw [nf_step_eq h, if_neg (by simp)]
  rfl
theorem flat_ok {M : DM} (h : NF M) (hok : M.Ok) : (flat M).Ok := by
  have := hok.sync
  rwa [nf_sync_eq h] at this
/-- What Read gives, through the cache. -/
theorem look_put (S : List (List Int)) (c : List (Nat × List Int)) {s : Nat} (hs : s < S.length) : ∀ k, k ≤ c.length → (lookF c s k).getD (S.getD s []) = (putF S (c.take k)).getD s []
  | 0, _ => rfl
  | k + 1, hk => by
    have ih := look_put S c hs k (by omega)
    have hp : c[k]? = some c[k] := List.getElem?_eq_getElem (by omega)
    rw [lookF, hp, putF_take S c k _ hp]
    simp only []
    by_cases e : c[k].1 = s
    · rw [if_pos e, e, getD_set (by rw [putF_len]; exact hs)]
      rfl
    · rw [if_neg e, getD_ne e]
      exact ih
theorem read_flat {M : DM} (ho : M.off = false) {s : Nat} (hs : s < M.secs.length) : (readF M (s : Int)).1 = (flat M).secs.getD s [] ∧ (readF M (s : Int)).2 = 0 := by
  have hf : M.fits s = true := by simp only [DM.fits, decide_eq_true_eq]; omega
  rw [readF, if_neg (by rw [hf]; simp), if_neg (by rw [ho]; simp)]
  refine ⟨?_, rfl⟩
  show M.content (s : Int).toNat = _
  rw [Int.toNat_natCast, DM.content, look_put M.secs M.cache hs _ (Nat.le_refl _), List.take_length]
  rfl
theorem new_secs (n z : Nat) : (newF n z).secs.length = n := by simp [newF]
theorem new_nf (n z : Nat) : NF (newF n z) := ⟨rfl, rfl⟩
end Go.Proofs.YtlffiebnieakjaaDoor

/- A disk in a law's run: its blocks lie at or above B and are none of T (what the law reads). Bounds on sizes alone. -/
namespace Go.Proofs.YtlffiebnieakjaaDoor
open Go.RowKit
set_option maxRecDepth 100000
set_option maxHeartbeats 1600000

/-- A disk in a law's run: its blocks lie above B and are none of T. -/
def DR (B : Nat) (T : Nat → Prop) (w : World) (b : Nat) (M : DM) : Prop := ∃ SD, IG.DS SD w b M ∧ ∀ k, SD k → B ≤ k ∧ k < w.heap.size ∧ ¬ T k
/-- What a run keeps of its own lists. -/
structure TR (B : Nat) (T : Nat → Prop) (w : World) : Prop where
  low : ∀ k, k < B → T k
  lt : ∀ k, T k → k < w.heap.size
theorem TR.hB {B : Nat} {T : Nat → Prop} {w : World} (h : TR B T w) : B ≤ w.heap.size := by
  rcases Nat.lt_or_ge w.heap.size B with h1 | h1
  · have := h.lt _ (h.low _ h1); omega
  · exact h1
/-- T and what is new. -/
abbrev Tn (T : Nat → Prop) (w w' : World) : Nat → Prop := fun k => T k ∨ (w.heap.size ≤ k ∧ k < w'.heap.size)
theorem TR.next {B : Nat} {T : Nat → Prop} {w w' : World} (h : TR B T w) (hs : w.heap.size ≤ w'.heap.size) : TR B (Tn T w w') w' := ⟨fun k hk => Or.inl (h.low k hk), fun k hk => by rcases hk with hk | hk; exact Nat.lt_of_lt_of_le (h.lt k hk) hs; exact hk.2⟩
theorem TR.same {B : Nat} {T : Nat → Prop} {w w' : World} (h : TR B T w) (hs : w.heap.size ≤ w'.heap.size) : TR B T w' := ⟨h.low, fun k hk => Nat.lt_of_lt_of_le (h.lt k hk) hs⟩
section
variable {B : Nat} {T : Nat → Prop} {w w' : World} {b : Nat} {M : DM}
/-- Blocks below the heap's size are as they were. -/
theorem DR.bel (h : DR B T w b M) (hb : Below w.heap.size w w') : DR B (Tn T w w') w' b M := by
  obtain ⟨SD, h1, h2⟩ := h
  refine ⟨SD, IG.keep h1 ⟨hb.size, fun k _ hl => hb.block k hl⟩, fun k hk => ⟨(h2 k hk).1, Nat.lt_of_lt_of_le (h2 k hk).2.1 hb.size, fun ht => ?_⟩⟩
  rcases ht with ht | ht
  · exact (h2 k hk).2.2 ht
  · have := (h2 k hk).2.1; omega
/-- Only the disk's blocks and new ones have changed. -/
theorem dr_next {SD : Nat → Prop} {M' : DM} (t : TR B T w) (h2 : ∀ k, SD k → B ≤ k ∧ k < w.heap.size ∧ ¬ T k) (d : IG.DS (Nw SD w w') w' b M') (k : Kept SD w w') : DR B T w' b M' ∧ Below B w w' ∧ Keeps T w w' := by
  refine ⟨⟨_, IG.lt d, fun q hq => ⟨?_, hq.2, fun ht => ?_⟩⟩, k.below t.hB fun q hq => (h2 q hq).1, k.size, fun q hq hl => k.block q hl fun hs => (h2 q hs).2.2 hq⟩
  · rcases hq.1 with h | h
    · exact (h2 q h).1
    · have := t.hB; omega
  · rcases hq.1 with h | h
    · exact (h2 q h).2.2 ht
    · have := t.lt q ht; omega
theorem DR.down (h : DR B T w b M) : Calls Tryd.prog 27 #[.pointer (some ⟨b, 0, none⟩)] w fun e w' => e = .returned (.bool M.off) ∧ Below w.heap.size w w' := by
  obtain ⟨SD, h1, _⟩ := h
  exact IG.down h1
theorem DR.cached (h : DR B T w b M) : Calls Tryd.prog 20 #[.pointer (some ⟨b, 0, none⟩)] w fun e w' => e = .returned (.int .i64 M.cache.length) ∧ Below w.heap.size w w' := by
  obtain ⟨SD, h1, _⟩ := h
  exact IG.cached h1
theorem DR.read (h : DR B T w b M) (s : Int) (hs : R64 s) (hc : M.cache.length ≤ 1000000) : Calls Tryd.prog 31 #[.pointer (some ⟨b, 0, none⟩), .int .i64 s] w fun e w' => RdQ (readF M s).1 (readF M s).2 w e w' := by
  obtain ⟨SD, h1, _⟩ := h
  exact (IG.read s hs hc h1).mono fun e w' q => q.1
theorem DR.write (h : DR B T w b M) (t : TR B T w) (s : Nat) (hs : s ≤ 100000) (hc : M.cache.length < 1000000) (bo : Option Addr) (bn bc : Nat) (l : List Int) (hin : CR T w (.slice bo bn bc) l) :
    Calls Tryd.prog 24 #[.pointer (some ⟨b, 0, none⟩), .int .i64 s, .slice bo bn bc] w fun e w' => e = .returned (.int .i64 (writeF M s l).1) ∧ DR B T w' b (writeF M s l).2 ∧ Below B w w' ∧ Keeps T w w' := by
  obtain ⟨SD, h1, h2⟩ := h
  exact (IG.write T (s : Int) ⟨by omega, by omega⟩ bo bn bc l hc hin (fun k hk hS => (h2 k hS).2.2 hk) h1).mono fun e w' ⟨q1, q2, q3⟩ => ⟨q1, dr_next t h2 q2 q3⟩
theorem DR.sync (h : DR B T w b M) (t : TR B T w) (hc : M.cache.length ≤ 1000000) :
    Calls Tryd.prog 26 #[.pointer (some ⟨b, 0, none⟩)] w fun e w' => e = .returned (.int .i64 (syncF M).1) ∧ DR B T w' b (syncF M).2 ∧ Below B w w' ∧ Keeps T w w' := by
  obtain ⟨SD, h1, h2⟩ := h
  exact (IG.sync hc h1).mono fun e w' ⟨q1, q2, q3⟩ => ⟨q1, dr_next t h2 q2 q3⟩
theorem DR.bel0 (h : DR B T w b M) (hb : Below w.heap.size w w') : DR B T w' b M := by
  obtain ⟨SD, h1, h2⟩ := h
  exact ⟨SD, IG.keep h1 ⟨hb.size, fun k _ hl => hb.block k hl⟩, fun k hk => ⟨(h2 k hk).1, Nat.lt_of_lt_of_le (h2 k hk).2.1 hb.size, (h2 k hk).2.2⟩⟩
theorem DR.ok (h : DR B T w b M) : M.Ok := by
  obtain ⟨SD, h1, _⟩ := h
  exact IG.ok h1
theorem DR.size (h : DR B T w b M) : Calls Tryd.prog 19 #[.pointer (some ⟨b, 0, none⟩)] w fun e w' => e = .returned (.int .i64 M.sz) ∧ Below w.heap.size w w' := by
  obtain ⟨SD, h1, _⟩ := h
  exact IG.size h1
theorem DR.sectors (h : DR B T w b M) : Calls Tryd.prog 12 #[.pointer (some ⟨b, 0, none⟩)] w fun e w' => e = .returned (.int .i64 M.secs.length) ∧ Below w.heap.size w w' := by
  obtain ⟨SD, h1, _⟩ := h
  exact IG.sectors h1
theorem DR.fail (h : DR B T w b M) (t : TR B T w) (n : Int) (hn : R64 n) :
    Calls Tryd.prog 25 #[.pointer (some ⟨b, 0, none⟩), .int .i64 n] w fun e w' => e = .returned (.tuple #[]) ∧ DR B T w' b (failF M n) ∧ Below B w w' ∧ Keeps T w w' := by
  obtain ⟨SD, h1, h2⟩ := h
  exact (IG.fail n hn h1).mono fun e w' ⟨q1, q2, q3⟩ => ⟨q1, dr_next t h2 q2 q3⟩
theorem DR.crash (h : DR B T w b M) (t : TR B T w) (hc : M.cache.length ≤ 1000000) (ko : Option Addr) (kn kc : Nat) (keep : List Bool) (hk : Rd w (.slice ko kn kc) (bls keep) ∧ (0 < (bls keep).length → In T (.slice ko kn kc))) :
    Calls Tryd.prog 28 #[.pointer (some ⟨b, 0, none⟩), .slice ko kn kc] w fun e w' => e = .returned (.tuple #[]) ∧ DR B T w' b (crashF M keep) ∧ Below B w w' ∧ Keeps T w w' := by
  obtain ⟨SD, h1, h2⟩ := h
  exact (IG.crash T ko kn kc keep hc hk (fun k hk hS => (h2 k hS).2.2 hk) h1).mono fun e w' ⟨q1, q2, q3⟩ => ⟨q1, dr_next t h2 q2 q3⟩
end
/-- A new disk in a law's run. -/
theorem dr_new (n z : Nat) (h1 : 1 ≤ n) (h2 : n ≤ 65536) (h3 : 16 ≤ z) (h4 : z ≤ 4096) (w : World) : Calls Tryd.prog 29 #[.int .i64 n, .int .i64 z] w fun e w' => ∃ b, e = .returned (.tuple #[.pointer (some ⟨b, 0, none⟩), .int .i64 0]) ∧ DR w.heap.size (fun k => k < w.heap.size) w' b (newF n z) ∧ Below w.heap.size w w' :=
  (IG.newY n z h1 h2 h3 h4 w).mono fun e w' ⟨b, q1, q2, q3⟩ => ⟨b, q1, ⟨_, q2, fun k hk => ⟨hk.1, hk.2, by omega⟩⟩, q3⟩
theorem tr_new {w w' : World} (hs : w.heap.size ≤ w'.heap.size) : TR w.heap.size (fun k => k < w.heap.size) w' := ⟨fun k hk => hk, fun k hk => Nat.lt_of_lt_of_le hk hs⟩
end Go.Proofs.YtlffiebnieakjaaDoor

/- Checkpoint's numbers, headers and slots, as mathematics. Bounds on sizes alone. -/
namespace Go.Proofs.YtlffiebnieakjaaDoor
set_option maxRecDepth 100000

/-- The k lowest bytes of n, the highest first. -/
def beF (n : Nat) : Nat → List Int
  | 0 => []
  | k + 1 => ((n / 256 ^ k % 256 : Nat) : Int) :: beF n k
theorem beF_len (n : Nat) : ∀ k, (beF n k).length = k
  | 0 => rfl
  | k + 1 => by rw [beF, List.length_cons, beF_len n k]
theorem beF_byt (n : Nat) : ∀ k, ∀ x ∈ beF n k, 0 ≤ x ∧ x ≤ 255
  | 0, x, h => by simp [beF] at h
  | k + 1, x, h => by
    rw [beF] at h
    rcases List.mem_cons.1 h with rfl | h
    · have := Nat.mod_lt (n / 256 ^ k) (show 256 > 0 by decide)
      omega
    · exact beF_byt n k x h
/-- The number that bytes name, behind a number m. -/
def numG (m : Nat) : List Int → Nat
  | [] => m
  | x :: l => numG (m * 256 + x.toNat) l
/-- The number that bytes name. -/
def numF (l : List Int) : Nat := numG 0 l
theorem numG_eq : ∀ (l : List Int) (m : Nat), numG m l = m * 256 ^ l.length + numG 0 l
  | [], m => by simp [numG]
  | x :: l, m => by
    rw [numG, numG_eq l (m * 256 + x.toNat), numG, numG_eq l (0 * 256 + x.toNat), List.length_cons, Nat.pow_succ, Nat.add_mul, Nat.zero_mul, Nat.zero_add, Nat.mul_assoc, Nat.mul_comm 256, Nat.add_assoc]
theorem numG_snoc (l : List Int) (x : Int) : ∀ m, numG m (l ++ [x]) = numG m l * 256 + x.toNat := by
  induction l with
  | nil => intro m; rfl
  | cons y l ih => intro m; exact ih _
theorem num_snoc (l : List Int) (x : Int) : numF (l ++ [x]) = numF l * 256 + x.toNat := numG_snoc l x 0
theorem num_cons (x : Int) (l : List Int) : numF (x :: l) = x.toNat * 256 ^ l.length + numF l := by
  show numG (0 * 256 + x.toNat) l = _
  rw [numG_eq, Nat.zero_mul, Nat.zero_add]
  rfl
theorem num_lt : ∀ (l : List Int), (∀ x ∈ l, 0 ≤ x ∧ x ≤ 255) → numF l < 256 ^ l.length
  | [], _ => by simp [numF, numG]
  | x :: l, h => by
    have h1 := num_lt l fun y hy => h y (List.mem_cons_of_mem _ hy)
    have h2 := h x List.mem_cons_self
    have h3 : x.toNat + 1 ≤ 256 := by omega
    have h4 : (x.toNat + 1) * 256 ^ l.length ≤ 256 * 256 ^ l.length := Nat.mul_le_mul_right _ h3
    rw [Nat.add_mul, Nat.one_mul] at h4
    rw [num_cons, List.length_cons, Nat.pow_succ, Nat.mul_comm (256 ^ l.length)]
    omega
theorem num_be (n : Nat) : ∀ k, numF (beF n k) = n % 256 ^ k
  | 0 => by simp [beF, numF, numG, Nat.mod_one]
  | k + 1 => by
    rw [beF, num_cons, beF_len, num_be n k, Int.toNat_natCast, Nat.pow_succ, Nat.mod_mul, Nat.add_comm, Nat.mul_comm (256 ^ k)]
theorem be_num : ∀ (l : List Int), (∀ x ∈ l, 0 ≤ x ∧ x ≤ 255) → beF (numF l) l.length = l := by
  have key : ∀ (l : List Int), (∀ x ∈ l, 0 ≤ x ∧ x ≤ 255) → ∀ m, beF (m * 256 ^ l.length + numF l) l.length = l := by
    intro l
    induction l with
    | nil => intro _ m; rfl
    | cons x l ih =>
      intro h m
      have hx := h x List.mem_cons_self
      have hl : ∀ y ∈ l, 0 ≤ y ∧ y ≤ 255 := fun y hy => h y (List.mem_cons_of_mem _ hy)
      have hlt := num_lt l hl
      have hp : 0 < 256 ^ l.length := Nat.pow_pos (by decide)
      have e : m * 256 ^ (x :: l).length + numF (x :: l) = (m * 256 + x.toNat) * 256 ^ l.length + numF l := by
        rw [num_cons, List.length_cons, Nat.pow_succ, Nat.add_mul, Nat.mul_assoc, Nat.mul_comm 256, Nat.add_assoc]
      rw [e, List.length_cons, beF, ih hl]
      congr 1
      rw [Nat.add_comm, Nat.add_mul_div_right _ _ hp, Nat.div_eq_of_lt hlt, Nat.zero_add, Nat.mul_comm m, Nat.mul_add_mod]
      omega
  intro l h
  have := key l h 0
  rwa [Nat.zero_mul, Nat.zero_add] at this
theorem be_zero : ∀ k, beF 0 k = List.replicate k 0
  | 0 => rfl
  | k + 1 => by rw [beF, be_zero k, List.replicate_succ]; simp
theorem num_zero (k : Nat) : numF (List.replicate k 0) = 0 := by rw [← be_zero, num_be, Nat.zero_mod]

/-- The parts that a slot asks, over whatever digest dg: a sector that holds the header of the content b with the generation g. -/
def headK (dg : List Int → List Int) (z : Nat) (b : List Int) (g : Nat) : List Int := beF g 8 ++ (beF b.length 4 ++ (dg (beF g 8 ++ (beF b.length 4 ++ b)) ++ List.replicate (z - 44) 0))
theorem headK_len {dg : List Int → List Int} (hd : ∀ m, (dg m).length = 32) {z : Nat} (hz : 44 ≤ z) (b : List Int) (g : Nat) : (headK dg z b g).length = z := by
  simp only [headK, List.length_append, beF_len, hd, List.length_replicate]
  omega
theorem headK_gen (dg : List Int → List Int) (z : Nat) (b : List Int) (g : Nat) : (headK dg z b g).take 8 = beF g 8 := List.take_left' (beF_len g 8)
theorem headK_num (dg : List Int → List Int) (z : Nat) (b : List Int) (g : Nat) : ((headK dg z b g).drop 8).take 4 = beF b.length 4 := by
  rw [headK, List.drop_left' (beF_len g 8)]
  exact List.take_left' (beF_len _ 4)
/-- The greatest generation. -/
def maxG : Nat := 4611686018427387904
/-- What a slot holds whose header is h and whose body is d: the content and the generation, or nothing. -/
def slotF (dg : List Int → List Int) (h d : List Int) : Option (List Int × Nat) :=
  let g := numF (h.take 8)
  let n := numF ((h.drop 8).take 4)
  if g < 1 ∨ maxG < g ∨ d.length < n ∨ h ≠ headK dg h.length (d.take n) g then none else some (d.take n, g)
/-- A slot whose header is written over a body that begins with the content. -/
theorem slot_head {dg : List Int → List Int} (hd : ∀ m, (dg m).length = 32) {z : Nat} (hz : 44 ≤ z) {b d : List Int} {g : Nat} (hg : 1 ≤ g ∧ g ≤ maxG) (hb : b.length ≤ d.length) (hl : b.length < 4294967296) (hp : d.take b.length = b) : slotF dg (headK dg z b g) d = some (b, g) := by
  have h1 : numF ((headK dg z b g).take 8) = g := by
    rw [headK_gen, num_be]
    exact Nat.mod_eq_of_lt (by unfold maxG at hg; omega)
  have h2 : numF (((headK dg z b g).drop 8).take 4) = b.length := by
    rw [headK_num, num_be]
    exact Nat.mod_eq_of_lt (by omega)
  simp only [slotF, h1, h2, hp, headK_len hd hz]
  rw [if_neg (by simp; omega)]
/-- A slot whose header is zeros. -/
theorem slot_zero (dg : List Int → List Int) (z : Nat) (d : List Int) : slotF dg (List.replicate z 0) d = none := by
  have h1 : numF ((List.replicate z (0 : Int)).take 8) = 0 := by rw [List.take_replicate, num_zero]
  simp only [slotF, h1]
  rw [if_pos (Or.inl (by decide))]
/-- The newest of two slots: content, generation, slot. -/
def newestF (a b : Option (List Int × Nat)) : List Int × Nat × Nat :=
  match a, b with
  | none, none => ([], 0, 1)
  | some x, none => (x.1, x.2, 0)
  | none, some y => (y.1, y.2, 1)
  | some x, some y => if x.2 ≥ y.2 then (x.1, x.2, 0) else (y.1, y.2, 1)
end Go.Proofs.YtlffiebnieakjaaDoor

/- Checkpoint: the numbers of a header, read. Bounds on sizes alone. -/
namespace Go.Proofs.YtlffiebnieakjaaDoor
open Go.RowKit
set_option maxRecDepth 100000
set_option maxHeartbeats 1600000

theorem or_byte (m x : Nat) (hm : m < 72057594037927936) (hx : x < 256) : bits .or .u64 ((m : Int) * 256) (x : Int) = ((m * 256 + x : Nat) : Int) := by
  have h := bits_or_u64_nat (m * 256) x (by omega) (by omega)
  rw [show m * 256 = m <<< 8 by rw [Nat.shiftLeft_eq], ← Nat.shiftLeft_add_eq_or_of_lt (by omega), Nat.shiftLeft_eq] at h
  rw [← h]
  congr 1
theorem num_take {l : List Int} {i : Nat} {x : Int} (h : l[i]? = some x) : numF (l.take (i + 1)) = numF (l.take i) * 256 + x.toNat := by
  rw [List.take_add_one, h]
  exact num_snoc _ _
theorem num_take_lt {l : List Int} (hb : ∀ x ∈ l, 0 ≤ x ∧ x ≤ 255) {i : Nat} (hi : i < 8) : numF (l.take i) < 72057594037927936 := by
  have h1 := num_lt (l.take i) fun x hx => hb x (List.mem_of_mem_take hx)
  have h2 : 256 ^ (l.take i).length ≤ 256 ^ 7 := Nat.pow_le_pow_right (by decide) (by rw [List.length_take]; omega)
  exact Nat.lt_of_lt_of_le h1 (by simpa using h2)
theorem number_any (ao : Option Addr) (len cap : Nat) (l : List Int) (w : World) (hR : Rd w (.slice ao len cap) (by8 l)) (hb : ∀ x ∈ l, 0 ≤ x ∧ x ≤ 255) (hl : l.length ≤ 8) :
    Calls Tryd.prog 56 #[.slice ao len cap] w fun e w' => e = .returned (.int .u64 (numF l : Nat)) ∧ w' = w := by
  have hn := (rd_cut hR).1
  have hcp := (rd_cut hR).2
  rw [by8_length] at hn
  have HN := hid_of hn
  have HR := hid_of hR
  have len8 : len ≤ 8 := by omega
  clear hR hn
  go_enter Tryd.func56, Tryd.ntmps56
  go_wp2
  go_loopw [3, 8] (fun nv iv wr => ∃ i m : Nat, i ≤ len ∧ iv = .int .i64 i ∧ nv = .int .u64 m ∧ Hid (m = numF (l.take i)) ∧ wr = w) (fun _ iv _ => len - (intOf iv).toNat)
  case atStart => exact ⟨0, 0, Nat.zero_le _, rfl, rfl, hid_of (by simp [numF, numG]), rfl⟩
  case round =>
    obtain ⟨i, m, hi, rfl, rfl, hm, hw⟩ := hrel
    subst hw
    by_cases hlt : i < len
    · have d1 : decide (i < len) = true := decide_eq_true hlt
      have hlt' : (i : Int) < (len : Int) := by omega
      obtain ⟨x, hx⟩ : ∃ x, l[i]? = some x := ⟨_, List.getElem?_eq_getElem (by have := HN.out; omega)⟩
      obtain ⟨g, o, rfl, hcell⟩ := rd_at HR.out (i := i) (t := .int .u8 x) (by rw [by8, List.getElem?_map, hx]; rfl)
      have hxb := hb x (List.mem_of_getElem? hx)
      obtain ⟨xn, rfl⟩ : ∃ k : Nat, x = k := ⟨x.toNat, by omega⟩
      have hxn : xn < 256 := by omega
      have hmb : m < 72057594037927936 := by rw [hm.out]; exact num_take_lt hb (by omega)
      obtain ⟨m2, hm2⟩ : ∃ m2, m2 = m * 256 + xn := ⟨_, rfl⟩
      have o1 := or_byte m xn hmb hxn
      rw [← hm2] at o1
      have o0 : (m : Int) * 256 % 18446744073709551616 = (m : Int) * 256 := by omega
      have o2 : bits .or .u64 ((m : Int) * 256 % 18446744073709551616) (xn : Int) = (m2 : Int) := by rw [o0]; exact o1
      have HM2 : Hid (m2 = numF (l.take (i + 1))) := hid_of (by rw [num_take hx, ← hm.out, hm2, Int.toNat_natCast])
      have HLT := hid_of hlt
      clear hx hxb hm2 hm
      go_wp2
      go_roundw
      case rel => exact ⟨i + 1, m2, HLT.out, by go_num, rfl, HM2, trivial⟩
      case measure => have := HLT.out; simp [intOf]; omega
    · obtain rfl : len = i := by omega
      have d1 : decide (len < len) = false := by simp
      have HM : Hid (m = numF l) := hid_of (by rw [hm.out, List.take_of_length_le (by have := HN.out; omega)])
      clear hm
      go_wp2
      go_ret
      exact ⟨by rw [HM.out]; rfl, rfl⟩
/-- The reference's. -/
theorem rnumber_any (ao : Option Addr) (len cap : Nat) (l : List Int) (w : World) (hR : Rd w (.slice ao len cap) (by8 l)) (hb : ∀ x ∈ l, 0 ≤ x ∧ x ≤ 255) (hl : l.length ≤ 8) :
    Calls Tryd.prog 41 #[.slice ao len cap] w fun e w' => e = .returned (.int .u64 (numF l : Nat)) ∧ w' = w := by
  have hn := (rd_cut hR).1
  have hcp := (rd_cut hR).2
  rw [by8_length] at hn
  have HN := hid_of hn
  have HR := hid_of hR
  have len8 : len ≤ 8 := by omega
  clear hR hn
  go_enter Tryd.func41, Tryd.ntmps41
  go_wp2
  go_loopw [3, 4] (fun nv iv wr => ∃ i m : Nat, i ≤ len ∧ iv = .int .i64 i ∧ nv = .int .u64 m ∧ Hid (m = numF (l.take i)) ∧ wr = w) (fun _ iv _ => len - (intOf iv).toNat)
  case atStart => exact ⟨0, 0, Nat.zero_le _, rfl, rfl, hid_of (by simp [numF, numG]), rfl⟩
  case round =>
    obtain ⟨i, m, hi, rfl, rfl, hm, hw⟩ := hrel
    subst hw
    by_cases hlt : i < len
    · have d1 : decide (i < len) = true := decide_eq_true hlt
      have hlt' : (i : Int) < (len : Int) := by omega
      obtain ⟨x, hx⟩ : ∃ x, l[i]? = some x := ⟨_, List.getElem?_eq_getElem (by have := HN.out; omega)⟩
      obtain ⟨g, o, rfl, hcell⟩ := rd_at HR.out (i := i) (t := .int .u8 x) (by rw [by8, List.getElem?_map, hx]; rfl)
      have hxb := hb x (List.mem_of_getElem? hx)
      obtain ⟨xn, rfl⟩ : ∃ k : Nat, x = k := ⟨x.toNat, by omega⟩
      have hxn : xn < 256 := by omega
      have hmb : m < 72057594037927936 := by rw [hm.out]; exact num_take_lt hb (by omega)
      obtain ⟨m2, hm2⟩ : ∃ m2, m2 = m * 256 + xn := ⟨_, rfl⟩
      have o1 := or_byte m xn hmb hxn
      rw [← hm2] at o1
      have o0 : (m : Int) * 256 % 18446744073709551616 = (m : Int) * 256 := by omega
      have o2 : bits .or .u64 ((m : Int) * 256 % 18446744073709551616) (xn : Int) = (m2 : Int) := by rw [o0]; exact o1
      have HM2 : Hid (m2 = numF (l.take (i + 1))) := hid_of (by rw [num_take hx, ← hm.out, hm2, Int.toNat_natCast])
      have HLT := hid_of hlt
      clear hx hxb hm2 hm
      go_wp2
      go_roundw
      case rel => exact ⟨i + 1, m2, HLT.out, by go_num, rfl, HM2, trivial⟩
      case measure => have := HLT.out; simp [intOf]; omega
    · obtain rfl : len = i := by omega
      have d1 : decide (len < len) = false := by simp
      have HM : Hid (m = numF l) := hid_of (by rw [hm.out, List.take_of_length_le (by have := HN.out; omega)])
      clear hm
      go_wp2
      go_ret
      exact ⟨by rw [HM.out]; rfl, rfl⟩
end Go.Proofs.YtlffiebnieakjaaDoor

/- Checkpoint: a slot's room, syncs, reads; the numbers that a sector names. Bounds on sizes alone. -/
namespace Go.Proofs.YtlffiebnieakjaaDoor
open Go.RowKit
set_option maxRecDepth 100000
set_option maxHeartbeats 1600000

/-- A slot as a value. -/
abbrev slV (b f n z : Nat) : Value := .agg #[.pointer (some ⟨b, 0, none⟩), .int .i64 f, .int .i64 n, .int .i64 z]
abbrev slBox (b f n z : Nat) : Obj := .cells #[.pointer (some ⟨b, 0, none⟩), .int .i64 f, .int .i64 n, .int .i64 z] 69
theorem room_any (b f n z : Nat) (hn : 1 ≤ n ∧ n ≤ 65536) (hz : z ≤ 4096) (w : World) :
    Calls Tryd.prog 35 #[slV b f n z] w fun e w' => e = .returned (.int .i64 ((n - 1) * z : Nat)) ∧ Below w.heap.size w w' := by
  obtain ⟨p, hp⟩ : ∃ p, p = n - 1 := ⟨_, rfl⟩
  obtain ⟨q, hq⟩ : ∃ q, q = p * z := ⟨_, rfl⟩
  have hq2 : q ≤ 65536 * 4096 := by rw [hq]; exact Nat.mul_le_mul (by omega) hz
  have e : (n - 1) * z = q := by rw [hq, hp]
  have s1 : IntKind.i64.wrap ((n : Int) - 1) = (p : Int) := by rw [show (n : Int) - 1 = (p : Int) by omega]; exact IntWalk.i64_in _ (by omega)
  have s1b : (n : Int) - 1 = (p : Int) := by omega
  have s2 : IntKind.i64.wrap ((p : Int) * (z : Int)) = (q : Int) := by rw [← Int.natCast_mul, ← hq]; exact IntWalk.i64_in _ (by omega)
  have s2b : (p : Int) * (z : Int) = (q : Int) := by rw [← Int.natCast_mul, ← hq]
  rw [e]
  clear hp hq e
  go_enter Tryd.func35, Tryd.ntmps35
  go_wp2
  go_ret
  exact ⟨rfl, bel_alloc w _⟩
section
variable {B : Nat} {T : Nat → Prop} {b : Nat} {M : DM}
theorem ssync_any (f n z : Nat) (w : World) (h : DR B T w b M) (t : TR B T w) (hc : M.cache.length ≤ 1000000) :
    Calls Tryd.prog 51 #[slV b f n z] w fun e w' => e = .returned (.bool (decide ((syncF M).1 = 0))) ∧ DR B T w' b (syncF M).2 ∧ Below B w w' ∧ Keeps T w w' := by
  obtain ⟨w1, hw1⟩ : ∃ w1, w1 = w.alloc (slBox b f n z) := ⟨_, rfl⟩
  have ba : Below w.heap.size w w1 := by rw [hw1]; exact bel_alloc w _
  have B1 := hid_of (ba.mono t.hB)
  have T1 := hid_of (t.same ba.size)
  have k1 := hid_of (show Keeps T w w1 from ⟨ba.size, fun k _ hl => ba.block k hl⟩)
  have CS := hid_of ((h.bel0 ba).sync T1.out hc)
  obtain ⟨r, hr⟩ : ∃ r, r = (syncF M).1 := ⟨_, rfl⟩
  rw [← hr] at CS ⊢
  have HW := hid_of hw1
  clear h ba hr hw1
  go_enter Tryd.func51, Tryd.ntmps51
  go_wp2_with (first
    | (go_at_call 26; rw [← HW.out]; ((with_reducible refine (CS.out).mono ?_); (rintro e w2 ⟨rfl, q1, q2, q3⟩)); have D2 := hid_of q1; have B2 := hid_of (B1.out.trans q2); have K2 := hid_of (k1.out.trans q3); clear q1 q2 q3))
  go_ret
  exact ⟨rfl, D2.out, B2.out, K2.out⟩
theorem sread_any (f n z i : Nat) (w : World) (h : DR B T w b M) (hs : f + i < M.secs.length) (ho : M.off = false) (hc : M.cache.length ≤ 1000000) :
    Calls Tryd.prog 44 #[slV b f n z, .int .i64 i] w fun e w' => ∃ x k c, e = .returned (.slice x k c) ∧ Rd w' (.slice x k c) (by8 ((flat M).secs.getD (f + i) [])) ∧ Below w.heap.size w w' := by
  have hsec := h.ok.secs
  obtain ⟨w1, hw1⟩ : ∃ w1, w1 = w.alloc (slBox b f n z) := ⟨_, rfl⟩
  have ba : Below w.heap.size w w1 := by rw [hw1]; exact bel_alloc w _
  obtain ⟨r1, r2⟩ := read_flat ho hs
  have h9 := (h.bel0 ba).read ((f + i : Nat) : Int) ⟨by omega, by omega⟩ hc
  rw [r1, r2] at h9
  obtain ⟨s, hsd⟩ : ∃ s, s = f + i := ⟨_, rfl⟩
  rw [← hsd] at h9 ⊢
  have CR := hid_of h9
  have B1 := hid_of ba
  have s1 : IntKind.i64.wrap ((f : Int) + (i : Int)) = (s : Int) := by rw [show (f : Int) + (i : Int) = (s : Int) by omega]; exact IntWalk.i64_in _ (by omega)
  have s1b : (f : Int) + (i : Int) = (s : Int) := by omega
  have s9 : s ≤ 65536 := by omega
  have HW := hid_of hw1
  clear h ba hw1 r1 r2 h9 hs ho hc hsd
  go_enter Tryd.func44, Tryd.ntmps44
  go_wp2_with (first
    | (go_at_call 31; rw [← HW.out]; ((with_reducible refine (CR.out).mono ?_); (rintro e w2 ⟨x, k, c, rfl, q1, q2⟩)); have R2 := hid_of q1; have B2 := hid_of (B1.out.trans (q2.mono B1.out.size)); clear q1 q2))
  go_ret
  exact ⟨_, _, _, rfl, R2.out, B2.out⟩
end
end Go.Proofs.YtlffiebnieakjaaDoor

/- Checkpoint: a sector that is filled up with zeros; a slot's writes. Bounds on sizes alone. -/
namespace Go.Proofs.YtlffiebnieakjaaDoor
open Go.RowKit
set_option maxRecDepth 100000
set_option maxHeartbeats 1600000

/-- As much of l as fits in z bytes, filled up with zeros. -/
def padF (l : List Int) (z : Nat) : List Int := l.take z ++ List.replicate (z - l.length) 0
theorem padF_len (l : List Int) (z : Nat) : (padF l z).length = z := by
  rw [padF, List.length_append, List.length_take, List.length_replicate]
  omega
theorem by8_two (a b : List Int) : by8 (a ++ b) = by8 a ++ by8 b := by unfold by8; rw [List.map_append]
theorem splice_padF (l : List Int) (z : Nat) : splice (List.replicate z (Value.int .u8 0)) 0 (by8 (l.take z)) = by8 (padF l z) := by
  rw [splice, padF, by8_two, by8_length, List.length_take, List.take_zero, List.nil_append, List.drop_replicate]
  congr 1
  rw [by8, List.map_replicate]
  congr 1
  omega
theorem ssector_any (b f n z : Nat) (hz : z ≤ 4096) (bo : Option Addr) (bn bc : Nat) (l : List Int) (w : World) (hr : Rd w (.slice bo bn bc) (by8 l)) :
    Calls Tryd.prog 48 #[slV b f n z, .slice bo bn bc] w fun e w' => e = .returned (.slice (some ⟨w.heap.size + 1, 0, none⟩) z z) ∧ w'.heap[w.heap.size + 1]? = some (.cells (by8 (padF l z)).toArray 5 (0, 0)) ∧ Below w.heap.size w w' := by
  have ba := bel_alloc w (slBox b f n z)
  have sz1 : (w.alloc (slBox b f n z)).heap.size = w.heap.size + 1 := by simp
  have HN := hid_of (rd_cut hr).1
  have HR := hid_of (hr.at ba)
  have HW := hid_of (show ((w.alloc (slBox b f n z)).alloc (.cells (List.replicate z (.int .u8 0)).toArray 5)).heap[w.heap.size + 1]? = some (.cells (List.replicate z (.int .u8 0)).toArray 5 (0, 0)) from by have h9 := heap_alloc_new (w.alloc (slBox b f n z)) (.cells (List.replicate z (.int .u8 0)).toArray 5); rw [sz1] at h9; exact h9)
  have MK : ∀ w : World, (Instr.makeSlice 32 (.int .i64 z) (.int .i64 z)).run Tryd.prog w = .ok (.slice (some ⟨w.heap.size, 0, none⟩) z z) (w.alloc (.cells (List.replicate z (.int .u8 0)).toArray 5)) := fun w => by
    have h := run_make_row' (P := Tryd.prog) 32 5 (.int .u8 0) 1 u8E.und u8E.info rfl .i64 .i64 z (by omega) (by omega) w
    rw [show madeCells #[Value.int .u8 0] z = (List.replicate z (.int .u8 0)).toArray by rw [← Array.toList_inj]; simp [toList_madeCells_one]] at h
    exact h
  have b2 := bel_alloc (w.alloc (slBox b f n z)) (.cells (List.replicate z (.int .u8 0)).toArray 5)
  have HB := hid_of (ba.trans (b2.mono ba.size))
  have HC := hid_of (show 0 < (by8 (l.take z)).length → some (⟨w.heap.size + 1, 0, none⟩ : Addr) = some ⟨w.heap.size + 1, 0, none⟩ ∧ ∃ ad, bo = some ad ∧ ∀ (j : Nat) (v : Value), (by8 (l.take z))[j]? = some v → ((w.alloc (slBox b f n z)).alloc (.cells (List.replicate z (.int .u8 0)).toArray 5)).cell? (ad.add j) = some v from fun h0 => by
    obtain ⟨_, ad, e1, e2⟩ := src_cells (HR.out.at b2) (Nat.le_refl _) (g := 0) (by rw [by8_length]; rw [by8_length, List.length_take] at h0; omega)
    refine ⟨rfl, ad, e1, fun j v hv => e2 j v ?_⟩
    rw [by8, List.map_take, List.getElem?_take] at hv
    split at hv
    · exact hv
    · cases hv)
  have HS := hid_of (splice_padF l z)
  have HL := hid_of (show (by8 (l.take z)).length = Nat.min bn z from by rw [by8_length, List.length_take, HN.out, by8_length]; exact Nat.min_comm _ _)
  have HF := hid_of (show 0 + (by8 (l.take z)).length ≤ (List.replicate z (Value.int .u8 0)).length from by rw [by8_length, List.length_take, List.length_replicate]; omega)
  have HLE := hid_of (show w.heap.size ≤ w.heap.size + 1 from by omega)
  clear hr ba b2 sz1
  go_enter Tryd.func48, Tryd.ntmps48
  go_wp2_with (refine wpList_copy_splice rfl _ _ 32 32 rfl 5 Tryd.underlying32 sizeB (some ⟨w.heap.size + 1, 0, none⟩) bo z z bn bc rfl rfl (w.heap.size + 1) 0 (List.replicate z (Value.int .u8 0)) 5 HW.out (by8 (l.take z)) HL.out HC.out HF.out (by8_cells _) w.heap.size w HB.out HLE.out ?_; intro w3 h6 h7; rw [HS.out] at h6; have C3 := h6; have B3 := hid_of h7; clear h6 h7)
  go_ret
  exact ⟨rfl, C3.out, B3.out⟩
end Go.Proofs.YtlffiebnieakjaaDoor

/- Checkpoint: a slot's write of one sector. Bounds on sizes alone. -/
namespace Go.Proofs.YtlffiebnieakjaaDoor
open Go.RowKit
set_option maxRecDepth 100000
set_option maxHeartbeats 1600000

theorem DR.sub {B : Nat} {T U : Nat → Prop} {w : World} {b : Nat} {M : DM} (h : DR B U w b M) (hs : ∀ k, T k → U k) : DR B T w b M := by
  obtain ⟨SD, h1, h2⟩ := h
  exact ⟨SD, h1, fun k hk => ⟨(h2 k hk).1, (h2 k hk).2.1, fun ht => (h2 k hk).2.2 (hs k ht)⟩⟩
theorem Keeps.sub {T U : Nat → Prop} {w w' : World} (h : Keeps U w w') (hs : ∀ k, T k → U k) : Keeps T w w' := ⟨h.1, fun k hk hl => h.2 k (hs k hk) hl⟩
theorem keeps_low {T : Nat → Prop} {w w' : World} (h : Below w.heap.size w w') : Keeps T w w' := ⟨h.size, fun k _ hl => h.block k hl⟩
theorem cr_sec {w w' : World} {T : Nat → Prop} {z : Nat} {l : List Int} {g : Nat} (hz : l.length = z) (hz2 : z ≤ 1000000) (hg : w.heap.size ≤ g) (h : w'.heap[g]? = some (.cells (by8 l).toArray 5 (0, 0))) : CR (Tn T w w') w' (.slice (some ⟨g, 0, none⟩) z z) l := by
  subst hz
  refine ⟨⟨_, l.length, by rw [by8_length], by rw [by8_length]; exact Nat.le_refl _, by omega, fun _ => ⟨g, 0, rfl, lt_of_block h, fun j u hu => by rw [Nat.zero_add]; exact cell_blk h hu⟩⟩, fun _ a k c e => ?_⟩
  cases e
  exact Or.inr ⟨hg, lt_of_block h⟩
theorem swrite_any {B : Nat} {T : Nat → Prop} {b : Nat} {M : DM} (f n z i : Nat) (w : World) (h : DR B T w b M) (t : TR B T w) (hz : M.sz = z) (hs : f + i ≤ 100000) (hc : M.cache.length < 1000000) (bo : Option Addr) (bn bc : Nat) (l : List Int) (hin : CR T w (.slice bo bn bc) l) :
    Calls Tryd.prog 50 #[slV b f n z, .int .i64 i, .slice bo bn bc] w fun e w' => e = .returned (.bool (decide ((writeF M (f + i : Nat) (padF l z)).1 = 0))) ∧ DR B T w' b (writeF M (f + i : Nat) (padF l z)).2 ∧ Below B w w' ∧ Keeps T w w' := by
  have hz4 : z ≤ 4096 := by rw [← hz]; exact h.ok.sz
  obtain ⟨w1, hw1⟩ : ∃ w1, w1 = w.alloc (slBox b f n z) := ⟨_, rfl⟩
  have ba : Below w.heap.size w w1 := by rw [hw1]; exact bel_alloc w _
  have hblk : w1.heap[w.heap.size]? = some (.cells #[.pointer (some ⟨b, 0, none⟩), .int .i64 f, .int .i64 n, .int .i64 z] 69 (0, 0)) := by rw [hw1]; exact heap_alloc_new w _
  obtain ⟨TT, hTT⟩ : ∃ TT, TT = Tn T w w1 := ⟨_, rfl⟩
  have hTs : ∀ k, T k → TT k := fun k hk => by rw [hTT]; exact Or.inl hk
  have hTb : TT w.heap.size := by rw [hTT]; exact Or.inr ⟨Nat.le_refl _, lt_of_block hblk⟩
  have T1 : TR B TT w1 := by rw [hTT]; exact t.next ba.size
  have D1 : DR B TT w1 b M := by rw [hTT]; exact h.bel ba
  have bd : Below w1.heap.size w1 w1.drew := (Below.refl _ _).drew
  have HKS := hid_of (fun (X : World) (hX : Keeps TT w1 X) => show X.cell? ⟨w.heap.size, 0, none⟩ = some (.pointer (some ⟨b, 0, none⟩)) ∧ X.cell? ⟨w.heap.size, 1, none⟩ = some (.int .i64 f) ∧ X.cell? ⟨w.heap.size, 2, none⟩ = some (.int .i64 n) ∧ X.cell? ⟨w.heap.size, 3, none⟩ = some (.int .i64 z) from by
    have e := (hX.2 _ hTb (lt_of_block hblk)).trans hblk
    exact ⟨cell_blk e rfl, cell_blk e rfl, cell_blk e rfl, cell_blk e rfl⟩)
  have K0 := hid_of (show Keeps TT w1 w1.drew from keeps_low bd)
  have CSC := hid_of (ssector_any b f n z hz4 bo bn bc l w1.drew ((hin.keep (keeps_low ba)).keep (keeps_low bd)).1)
  obtain ⟨s, hsd⟩ : ∃ s, s = f + i := ⟨_, rfl⟩
  rw [← hsd]
  have s9 : s ≤ 100000 := by omega
  have s1 : IntKind.i64.wrap ((f : Int) + (i : Int)) = (s : Int) := by rw [show (f : Int) + (i : Int) = (s : Int) by omega]; exact IntWalk.i64_in _ (by omega)
  have s1b : (f : Int) + (i : Int) = (s : Int) := by omega
  have s1c : IntKind.i64.wrap (s : Int) = (s : Int) := IntWalk.i64_in _ (by omega)
  obtain ⟨r, hr⟩ : ∃ r, r = (writeF M (s : Nat) (padF l z)).1 := ⟨_, rfl⟩
  obtain ⟨M2, hM2⟩ : ∃ M2, M2 = (writeF M (s : Nat) (padF l z)).2 := ⟨_, rfl⟩
  rw [← hr, ← hM2]
  have CW := hid_of (fun (X : World) (hX : Below w1.drew.heap.size w1.drew X) (hb : X.heap[w1.drew.heap.size + 1]? = some (.cells (by8 (padF l z)).toArray 5 (0, 0))) => show Calls Tryd.prog 24 #[.pointer (some ⟨b, 0, none⟩), .int .i64 s, .slice (some ⟨w1.heap.size + 1, 0, none⟩) z z] X (fun e w' => e = .returned (.int .i64 r) ∧ DR B T w' b M2 ∧ Below B w w' ∧ Keeps TT w1 w') from by
    have D2 := (D1.bel0 bd).bel hX
    have T2 := (T1.same bd.size).next hX.size
    have h9 := D2.write T2 s s9 hc (some ⟨w1.drew.heap.size + 1, 0, none⟩) z z (padF l z) (cr_sec (padF_len l z) (by omega) (by omega) hb)
    rw [← hr, ← hM2] at h9
    refine h9.mono fun e w' ⟨q1, q2, q3, q4⟩ => ⟨q1, q2.sub fun k hk => Or.inl (hTs k hk), ?_, ?_⟩
    · exact ((ba.trans ((bd.trans (hX.mono (Nat.le_refl _))).mono ba.size)).mono t.hB).trans q3
    · exact ((keeps_low bd).trans (keeps_low hX)).trans (q4.sub fun k hk => Or.inl hk))
  have HTS := hid_of hTs
  have KB := hid_of (show Keeps T w w1 from keeps_low ba)
  have HW := hid_of hw1
  clear h t D1 T1 hin hblk hTT hTs hTb ba bd hw1 hz hr hM2 hsd
  go_enter Tryd.func50, Tryd.ntmps50
  go_wp2
  rw [← HW.out]
  go_region_held3 (fun X => X.cell? ⟨w.heap.size, 0, none⟩ = some (.pointer (some ⟨b, 0, none⟩)) ∧ X.cell? ⟨w.heap.size, 1, none⟩ = some (.int .i64 f) ∧ X.cell? ⟨w.heap.size, 2, none⟩ = some (.int .i64 n) ∧ X.cell? ⟨w.heap.size, 3, none⟩ = some (.int .i64 z)) (exact HKS.out _ (Hid.out (by with_reducible assumption))) (first
    | (go_at_call 48; ((with_reducible refine (CSC.out).mono ?_); (rintro e w2 ⟨rfl, q1, q2⟩)); have G2 := hid_of q1; have B2 := hid_of q2; have K2 := hid_of (K0.out.trans (keeps_low q2)); clear q1 q2)
    | (go_at_call 24; ((with_reducible refine (CW.out w2 B2.out G2.out).mono ?_); (rintro e w3 ⟨rfl, q1, q2, q3⟩)); have D3 := hid_of q1; have B3 := hid_of q2; have K3 := hid_of q3; clear q1 q2 q3))
  all_goals go_wp2
  all_goals go_ret
  all_goals exact ⟨rfl, D3.out, B3.out, KB.out.trans (K3.out.sub HTS.out)⟩
end Go.Proofs.YtlffiebnieakjaaDoor

/- Slices of a row of bytes; what the first twelve bytes of a sector name. Bounds on sizes alone. -/
namespace Go.Proofs.YtlffiebnieakjaaDoor
open Go.RowKit
set_option maxRecDepth 100000
set_option maxHeartbeats 1600000

theorem lh_rule (g o len cap l h : Nat) (h1 : l ≤ h) (h2 : h ≤ cap) : ∃ A, (∀ wx, (Instr.slice 32 (.slice (some ⟨g, o, none⟩) len cap) (some (.int .i64 (l : Int))) (some (.int .i64 (h : Int))) none).run Tryd.prog wx = .ok (.slice A (h - l) (cap - l)) wx) ∧ (l < cap → A = some ⟨g, o + l, none⟩) := by
  obtain ⟨i0, hi, hz0, hz1, hz2⟩ := info_parts u8E.info
  have he : Tryd.prog.elem 32 = 5 := by kernel_rfl
  have ht : Tryd.prog.underlying 32 = some (.slice (Tryd.prog.elem 32)) := by rw [he]; exact Tryd.underlying32
  have hsz : ∀ wx, (sizeOf (Tryd.prog.elem 32)).run Tryd.prog wx = .ok 1 wx := fun wx => by
    rw [he]
    simp [sizeOf, typeInfo, hi, hz1]
  refine ⟨if cap = l then some ⟨g, o, none⟩ else (some (⟨g, o, none⟩ : Addr)).map (·.add (l * 1)), fun wx => ?_, fun hc => ?_⟩
  · rw [run_slice_lh (t := 32) (ht := ht) (h0 := by omega) (h1 := by omega) (h2 := by omega), hsz]
    rfl
  · rw [if_neg (by omega), Option.map_some, Addr.add_mid, Nat.mul_one]
theorem upto_i8 (g o len cap s : Nat) (hs : s ≤ cap) : ∀ wx, (Instr.slice 32 (.slice (some ⟨g, o, none⟩) len cap) none (some (.int .i64 (s : Int))) none).run Tryd.prog wx = .ok (.slice (some ⟨g, o, none⟩) s cap) wx := fun wx => by
  obtain ⟨i0, hi, hz0, hz1, hz2⟩ := info_parts u8E.info
  have he : Tryd.prog.elem 32 = 5 := by kernel_rfl
  have ht : Tryd.prog.underlying 32 = some (.slice (Tryd.prog.elem 32)) := by rw [he]; exact Tryd.underlying32
  have hsz : (sizeOf (Tryd.prog.elem 32)).run Tryd.prog wx = .ok 1 wx := by
    rw [he]
    simp [sizeOf, typeInfo, hi, hz1]
  rw [run_slice_h (t := 32) (ht := ht) (h0 := by omega) (h2 := by omega), hsz]
  simp [Result.andThen, sliced, Addr.add]
theorem rd_part {W : World} {g o n cap l m : Nat} {d : List Int} {A : Option Addr} (h : Rd W (.slice (some ⟨g, o, none⟩) n cap) (by8 d)) (hm : l + m ≤ n) (hA : l < cap → A = some ⟨g, o + l, none⟩) : Rd W (.slice A m (cap - l)) (by8 ((d.drop l).take m)) := by
  have hn := (rd_cut h).1
  rw [by8_length] at hn
  obtain ⟨ao, cc, ec, hc1, hc2, h4⟩ := h
  simp only [Value.slice.injEq] at ec
  obtain ⟨rfl, _, rfl⟩ := ec
  rw [by8_length] at hc1 h4
  have hl : (by8 ((d.drop l).take m)).length = m := by rw [by8_length, List.length_take, List.length_drop]; omega
  refine ⟨A, cap - l, by rw [hl], by rw [hl]; omega, by omega, fun h0 => ?_⟩
  rw [hl] at h0
  obtain ⟨g', o', e4, hg, hc⟩ := h4 (by omega)
  cases e4
  refine ⟨g, o + l, hA (by omega), hg, fun i t ht => ?_⟩
  have h9 : (by8 d)[l + i]? = some t := by
    rw [by8, List.map_take, List.getElem?_take, List.map_drop, List.getElem?_drop] at ht
    split at ht
    · exact ht
    · cases ht
  have := hc (l + i) t h9
  rwa [← Nat.add_assoc] at this
theorem parse_any (ao : Option Addr) (len cap : Nat) (l : List Int) (w : World) (hR : Rd w (.slice ao len cap) (by8 l)) (hb : ∀ x ∈ l, 0 ≤ x ∧ x ≤ 255) (hl : 12 ≤ l.length) :
    Calls Tryd.prog 45 #[.slice ao len cap] w fun e w' => e = .returned (.tuple #[.int .u64 (numF (l.take 8) : Nat), .int .u64 (numF ((l.drop 8).take 4) : Nat)]) ∧ Below w.heap.size w w' := by
  have hn := (rd_cut hR).1
  have hcp := (rd_cut hR).2
  rw [by8_length] at hn
  obtain ⟨y, hy⟩ : ∃ y, (by8 l)[0]? = some y := ⟨_, List.getElem?_eq_getElem (by rw [by8_length]; omega)⟩
  obtain ⟨g, o, rfl, _⟩ := rd_at hR hy
  have SR1 := upto_i8 g o len cap 8 (by omega)
  obtain ⟨A2, SR2, SA2⟩ := lh_rule g o len cap 8 12 (by omega) (by omega)
  rw [show 12 - 8 = 4 by decide] at SR2
  have SR1 : ∀ wx, (Instr.slice 32 (.slice (some ⟨g, o, none⟩) len cap) none (some (.int .i64 8)) none).run Tryd.prog wx = .ok (.slice (some ⟨g, o, none⟩) 8 cap) wx := SR1
  have SR2 : ∀ wx, (Instr.slice 32 (.slice (some ⟨g, o, none⟩) len cap) (some (.int .i64 8)) (some (.int .i64 12)) none).run Tryd.prog wx = .ok (.slice A2 4 (cap - 8)) wx := SR2
  have R0 := hR.at ((Below.refl w.heap.size w).drew)
  have r1 : Rd w.drew (.slice (some ⟨g, o, none⟩) 8 cap) (by8 (l.take 8)) := by
    have := rd_part (l := 0) (m := 8) (A := some ⟨g, o, none⟩) R0 (by omega) (fun _ => rfl)
    simpa using this
  have r2 := rd_part (l := 8) (m := 4) R0 (by omega) SA2
  have c1 := hid_of (number_any _ _ _ (l.take 8) w.drew r1 (fun x hx => hb x (List.mem_of_mem_take hx)) (by rw [List.length_take]; omega))
  have c2 := hid_of (number_any _ _ _ ((l.drop 8).take 4) w.drew r2 (fun x hx => hb x (List.mem_of_mem_drop (List.mem_of_mem_take hx))) (by rw [List.length_take]; omega))
  obtain ⟨m1, hm1⟩ : ∃ m, m = numF (l.take 8) := ⟨_, rfl⟩
  obtain ⟨m2, hm2⟩ : ∃ m, m = numF ((l.drop 8).take 4) := ⟨_, rfl⟩
  rw [← hm1] at c1 ⊢
  rw [← hm2] at c2 ⊢
  clear r1 r2 R0 hR hm1 hm2 hn hb hl hy SA2
  go_enter Tryd.func45, Tryd.ntmps45
  go_wp2
  (go_region_with (first
    | (go_at_call 56; ((with_reducible refine (c1.out).mono ?_); (rintro e w3 ⟨rfl, rfl⟩)))
    | (go_at_call 56; ((with_reducible refine (c2.out).mono ?_); (rintro e w3 ⟨rfl, rfl⟩)))))
  all_goals go_wp2
  all_goals go_ret2
  all_goals exact ⟨rfl, (Below.refl w.heap.size w).drew⟩
end Go.Proofs.YtlffiebnieakjaaDoor

/- Checkpoint: the sectors of a body are written. Bounds on sizes alone. -/
namespace Go.Proofs.YtlffiebnieakjaaDoor
open Go.RowKit
set_option maxRecDepth 100000
set_option maxHeartbeats 1600000

theorem write_same (M : DM) (s : Int) (l : List Int) : (writeF M s l).2.secs = M.secs ∧ (writeF M s l).2.sz = M.sz := by
  obtain ⟨e1, e2, e3⟩ := stepF_same M
  unfold writeF
  split
  · exact ⟨rfl, rfl⟩
  · split
    · exact ⟨e2, e1⟩
    · exact ⟨e2, e1⟩
theorem write_cache (M : DM) (s : Int) (l : List Int) : (writeF M s l).2.cache.length ≤ M.cache.length + 1 := by
  obtain ⟨e1, e2, e3⟩ := stepF_same M
  unfold writeF
  split
  · simp
  · split
    · simp [e3]
    · simp
/-- Sector k of an area that begins with L: bytes of L, zeros behind them. -/
def secL (L : List Int) (sz k : Nat) : List Int := (L.drop (k * sz)).take sz ++ List.replicate (sz - ((L.drop (k * sz)).take sz).length) 0
/-- i sectors from st on are written: whether all writes were good, and the disk. -/
def filF (M : DM) (fs : Nat) (L : List Int) (st : Nat) : Nat → Bool × DM
  | 0 => (true, M)
  | i + 1 => if (filF M fs L st i).1 = true then (decide ((writeF (filF M fs L st i).2 (fs + 1 + (st + i) : Nat) (secL L M.sz (st + i))).1 = 0), (writeF (filF M fs L st i).2 (fs + 1 + (st + i) : Nat) (secL L M.sz (st + i))).2) else filF M fs L st i
theorem filF_same (M : DM) (fs : Nat) (L : List Int) (st : Nat) : ∀ i, (filF M fs L st i).2.secs = M.secs ∧ (filF M fs L st i).2.sz = M.sz ∧ (filF M fs L st i).2.cache.length ≤ M.cache.length + i
  | 0 => ⟨rfl, rfl, Nat.le_refl _⟩
  | i + 1 => by
    obtain ⟨h1, h2, h3⟩ := filF_same M fs L st i
    rw [filF]
    split
    · obtain ⟨e1, e2⟩ := write_same (filF M fs L st i).2 (fs + 1 + (st + i) : Nat) (secL L M.sz (st + i))
      have e3 := write_cache (filF M fs L st i).2 (fs + 1 + (st + i) : Nat) (secL L M.sz (st + i))
      exact ⟨e1.trans h1, e2.trans h2, by simp only []; omega⟩
    · exact ⟨h1, h2, by omega⟩
theorem filF_good {M : DM} {fs : Nat} {L : List Int} {st i : Nat} (h : (filF M fs L st i).1 = true) (h0 : (writeF (filF M fs L st i).2 (fs + 1 + (st + i) : Nat) (secL L M.sz (st + i))).1 = 0) : filF M fs L st (i + 1) = (true, (writeF (filF M fs L st i).2 (fs + 1 + (st + i) : Nat) (secL L M.sz (st + i))).2) := by
  rw [filF, if_pos h, h0]
  rfl
theorem filF_bad {M : DM} {fs : Nat} {L : List Int} {st i : Nat} (h : (filF M fs L st i).1 = true) (h0 : (writeF (filF M fs L st i).2 (fs + 1 + (st + i) : Nat) (secL L M.sz (st + i))).1 ≠ 0) : ∀ j, filF M fs L st (i + 1 + j) = (false, (writeF (filF M fs L st i).2 (fs + 1 + (st + i) : Nat) (secL L M.sz (st + i))).2)
  | 0 => by
    rw [Nat.add_zero, filF, if_pos h, decide_eq_false h0]
  | j + 1 => by
    rw [← Nat.add_assoc, filF, filF_bad h h0 j]
    simp
theorem fro_u8 (g o len cap s : Nat) (hs : s ≤ len) (hc : len ≤ cap) : ∃ A, (∀ wx, (Instr.slice 32 (.slice (some ⟨g, o, none⟩) len cap) (some (.int .i64 (s : Int))) none none).run Tryd.prog wx = .ok (.slice A (len - s) (cap - s)) wx) ∧ (s < cap → A = some ⟨g, o + s, none⟩) := by
  obtain ⟨i0, hi, hz0, hz1, hz2⟩ := info_parts u8E.info
  have he : Tryd.prog.elem 32 = 5 := by kernel_rfl
  have ht : Tryd.prog.underlying 32 = some (.slice (Tryd.prog.elem 32)) := by rw [he]; exact Tryd.underlying32
  have hsz : ∀ wx, (sizeOf (Tryd.prog.elem 32)).run Tryd.prog wx = .ok 1 wx := fun wx => by
    rw [he]
    simp [sizeOf, typeInfo, hi, hz1]
  refine ⟨if cap = s then some ⟨g, o, none⟩ else (some (⟨g, o, none⟩ : Addr)).map (·.add (s * 1)), fun wx => ?_, fun hlt => ?_⟩
  · rw [run_slice_l (t := 32) (ht := ht) (h0 := by omega) (h1 := by omega), hsz]
    rfl
  · rw [if_neg (by omega), Option.map_some, Addr.add_mid, Nat.mul_one]
theorem secL_pad (L : List Int) (z k : Nat) : secL L z k = padF (L.drop (k * z)) z := by
  unfold secL padF
  simp
  omega
theorem rd_fro {W : World} {g o n cap s : Nat} {l : List Int} {A : Option Addr} (h : Rd W (.slice (some ⟨g, o, none⟩) n cap) (by8 l)) (hs : s ≤ n) (hA : s < cap → A = some ⟨g, o + s, none⟩) : Rd W (.slice A (n - s) (cap - s)) (by8 (l.drop s)) := by
  have hn := (rd_cut h).1
  rw [by8_length] at hn
  have h1 := rd_part (l := s) (m := n - s) (A := A) h (by omega) hA
  rwa [List.take_of_length_le (by rw [List.length_drop]; omega)] at h1
theorem sfill_any {B : Nat} {T : Nat → Prop} {b : Nat} {M : DM} (f n z : Nat) (w : World) (h : DR B T w b M) (t : TR B T w) (hz : M.sz = z) (hz1 : 16 ≤ z) (bo : Option Addr) (bn bc : Nat) (l : List Int) (hin : CR T w (.slice bo bn bc) l) (hl : l.length ≤ 30000) (hf : f ≤ 60000) (hc : M.cache.length ≤ 100000) :
    Calls Tryd.prog 52 #[slV b f n z, .slice bo bn bc] w fun e w' => e = .returned (.bool (filF M f l 0 ((bn + z - 1) / z)).1) ∧ DR B T w' b (filF M f l 0 ((bn + z - 1) / z)).2 ∧ Below B w w' ∧ Keeps T w w' := by
  have hz4 : z ≤ 4096 := by rw [← hz]; exact h.ok.sz
  have hn := (rd_cut hin.1).1
  have hcp := (rd_cut hin.1).2
  rw [by8_length] at hn
  obtain ⟨w1, hw1⟩ : ∃ w1, w1 = w.alloc (slBox b f n z) := ⟨_, rfl⟩
  have ba : Below w.heap.size w w1 := by rw [hw1]; exact bel_alloc w _
  have hblk : w1.heap[w.heap.size]? = some (.cells #[.pointer (some ⟨b, 0, none⟩), .int .i64 f, .int .i64 n, .int .i64 z] 69 (0, 0)) := by rw [hw1]; exact heap_alloc_new w _
  obtain ⟨TT, hTT⟩ : ∃ TT, TT = Tn T w w1 := ⟨_, rfl⟩
  have hTs : ∀ k, T k → TT k := fun k hk => by rw [hTT]; exact Or.inl hk
  have hTb : TT w.heap.size := by rw [hTT]; exact Or.inr ⟨Nat.le_refl _, lt_of_block hblk⟩
  have T1 := hid_of (show TR B TT w1 by rw [hTT]; exact t.next ba.size)
  have D1 := hid_of (show DR B TT w1 b (filF M f l 0 0).2 by rw [hTT]; exact h.bel ba)
  have C1 := hid_of (show CR TT w1 (.slice bo bn bc) l from (hin.keep (keeps_low ba)).mono hTs)
  have B1 := hid_of (ba.mono t.hB)
  have HKS := hid_of (fun (X : World) (hX : Keeps TT w1 X) => show X.cell? ⟨w.heap.size, 0, none⟩ = some (.pointer (some ⟨b, 0, none⟩)) ∧ X.cell? ⟨w.heap.size, 1, none⟩ = some (.int .i64 f) ∧ X.cell? ⟨w.heap.size, 2, none⟩ = some (.int .i64 n) ∧ X.cell? ⟨w.heap.size, 3, none⟩ = some (.int .i64 z) from by
    have e := (hX.2 _ hTb (lt_of_block hblk)).trans hblk
    exact ⟨cell_blk e rfl, cell_blk e rfl, cell_blk e rfl, cell_blk e rfl⟩)
  have HTS := hid_of hTs
  have KB := hid_of (show Keeps T w w1 from keeps_low ba)
  have HW := hid_of hw1
  have HN := hid_of hn
  have HZ := hid_of hz
  have HCC := hid_of hc
  obtain ⟨k, hk⟩ : ∃ k, k = (bn + z - 1) / z := ⟨_, rfl⟩
  rw [← hk]
  have hkz : bn ≤ k * z := by
    have h1 := Nat.div_add_mod (bn + z - 1) z
    have h2 := Nat.mod_lt (bn + z - 1) (show z > 0 by omega)
    rw [← hk, Nat.mul_comm] at h1
    omega
  have hkl : ∀ i, i * z < bn → i < k := fun i hi => by
    rcases Nat.lt_or_ge i k with h9 | h9
    · exact h9
    · have := Nat.mul_le_mul_right z h9; omega
  have hku : k ≤ bn + z := by rw [hk]; exact Nat.le_trans (Nat.div_le_self _ _) (by omega)
  have hkb : ∀ i, i < k → i * z < bn := fun i hi => by
    have h1 : (i + 1) * z ≤ k * z := Nat.mul_le_mul_right z hi
    have h2 : k * z ≤ bn + z - 1 := by rw [hk]; exact Nat.div_mul_le_self _ _
    rw [Nat.add_mul, Nat.one_mul] at h1
    omega
  have HKZ := hid_of hkz
  have HKL := hid_of hkl
  have HKB := hid_of hkb
  have hbn : bn ≤ 30000 := by omega
  have hk9 : k ≤ 40000 := by omega
  clear h t hin hblk hTT hTs hTb ba hw1 hz hn hk hkz hkl hkb hc hl
  go_enter Tryd.func52, Tryd.ntmps52
  go_wp2
  rw [← HW.out]
  go_loopw [5] (fun av wr => ∃ i at_ : Nat, i ≤ k ∧ av = .int .i64 at_ ∧ Hid (at_ = i * z) ∧ Hid ((filF M f l 0 i).1 = true) ∧ Hid (DR B TT wr b (filF M f l 0 i).2) ∧ Hid (TR B TT wr) ∧ Hid (CR TT wr (.slice bo bn bc) l) ∧ Hid (Below B w wr) ∧ Hid (Keeps TT w1 wr)) (fun av _ => 1000000 - (intOf av).toNat)
  case atStart => exact ⟨0, 0, Nat.zero_le _, rfl, hid_of (by omega), hid_of rfl, D1, T1, C1, B1, hid_of (keeps_low (Below.refl _ _))⟩
  case round =>
    obtain ⟨i, at_, hi, rfl, hat, hg, hd, ht, hcr, hb, hkp⟩ := hrel
    by_cases hlt : at_ < bn
    · have d1 : decide (at_ < bn) = true := decide_eq_true hlt
      have hlt' : (at_ : Int) < (bn : Int) := by omega
      have hik : i < k := HKL.out i (by rw [← hat.out]; exact hlt)
      obtain ⟨y, hy⟩ : ∃ y, (by8 l)[0]? = some y := ⟨_, List.getElem?_eq_getElem (by rw [by8_length]; have := HN.out; omega)⟩
      obtain ⟨g, o, rfl, _⟩ := rd_at hcr.out.1 hy
      obtain ⟨A, SR, SA⟩ := fro_u8 g o bn bc at_ (by omega) hcp.1
      obtain ⟨j, hj⟩ : ∃ j, j = i + 1 := ⟨_, rfl⟩
      obtain ⟨at2, hat2⟩ : ∃ a, a = at_ + z := ⟨_, rfl⟩
      have zne : (z : Int) ≠ 0 := by omega
      have zne2 : ¬ (z : Int) = 0 := by omega
      have zne3 : z ≠ 0 := by omega
      have hdv : at_ / z = i := by rw [hat.out]; exact Nat.mul_div_cancel _ (by omega)
      have t0 : (at_ : Int).tdiv (z : Int) = (i : Int) := by rw [Int.tdiv_eq_ediv_of_nonneg (by omega), ← Int.natCast_ediv, hdv]
      have t0w : IntKind.i64.wrap ((at_ : Int).tdiv (z : Int)) = (i : Int) := by rw [t0]; exact IntWalk.i64_in _ (by omega)
      have t0v : IntKind.i64.wrap (i : Int) = (i : Int) := IntWalk.i64_in _ (by omega)
      have t1 : IntKind.i64.wrap (1 + (i : Int)) = (j : Int) := by rw [show 1 + (i : Int) = (j : Int) by omega]; exact IntWalk.i64_in _ (by omega)
      have t1b : 1 + (i : Int) = (j : Int) := by omega
      have t1v : IntKind.i64.wrap (j : Int) = (j : Int) := IntWalk.i64_in _ (by omega)
      have t2 : IntKind.i64.wrap ((at_ : Int) + (z : Int)) = (at2 : Int) := by rw [show (at_ : Int) + (z : Int) = (at2 : Int) by omega]; exact IntWalk.i64_in _ (by omega)
      have t2b : (at_ : Int) + (z : Int) = (at2 : Int) := by omega
      have HAT2 : Hid (at2 = (i + 1) * z) := hid_of (by rw [hat2, hat.out, Nat.add_mul, Nat.one_mul])
      have HLT := hid_of hlt
      have HIK := hid_of hik
      have HA2 := hid_of hat2
      have K0 := hid_of (show Keeps TT w1 wr.drew from hkp.out.trans (keeps_low (Below.refl _ _).drew))
      obtain ⟨x0, x1, x2, x3⟩ := HKS.out wr hkp.out
      obtain ⟨S1, S2, S3⟩ := filF_same M f l 0 i
      have bd : Below wr.heap.size wr wr.drew := (Below.refl _ _).drew
      have cin : CR TT wr.drew (.slice A (bn - at_) (bc - at_)) (l.drop at_) := by
        have h9 := hcr.out.keep (keeps_low bd)
        refine ⟨rd_fro h9.1 (by omega) SA, fun _ a k' c' e => ?_⟩
        rw [SA (by have := hcp.1; omega)] at e
        cases e
        exact h9.2 (by have := HN.out; omega) ⟨g, o, none⟩ bn bc rfl
      have h9 := swrite_any f n z j wr.drew (hd.out.bel0 bd) (ht.out.same bd.size) (S2.trans HZ.out) (by omega) (by have := HCC.out; omega) A (bn - at_) (bc - at_) (l.drop at_) cin
      rw [show f + j = f + 1 + (0 + i) by omega, show padF (l.drop at_) z = secL l M.sz (0 + i) by rw [secL_pad, HZ.out, Nat.zero_add, ← hat.out]] at h9
      by_cases h0 : (writeF (filF M f l 0 i).2 (f + 1 + (0 + i) : Nat) (secL l M.sz (0 + i))).1 = 0
      · rw [decide_eq_true h0] at h9
        have e9 := filF_good hg.out h0
        rw [show (writeF (filF M f l 0 i).2 (f + 1 + (0 + i) : Nat) (secL l M.sz (0 + i))).2 = (filF M f l 0 (i + 1)).2 by rw [e9]] at h9
        have CP := hid_of h9
        have HG2 : Hid ((filF M f l 0 (i + 1)).1 = true) := hid_of (by rw [e9])
        clear h9 h0 e9 cin bd S1 S2 S3 hat2 hj hdv hik hlt SA hy
        go_wp2
        go_region_held3 (fun X => X.cell? ⟨w.heap.size, 0, none⟩ = some (.pointer (some ⟨b, 0, none⟩)) ∧ X.cell? ⟨w.heap.size, 1, none⟩ = some (.int .i64 f) ∧ X.cell? ⟨w.heap.size, 2, none⟩ = some (.int .i64 n) ∧ X.cell? ⟨w.heap.size, 3, none⟩ = some (.int .i64 z)) (exact HKS.out _ (Hid.out (by with_reducible assumption))) (first
          | (go_at_call 50; ((with_reducible refine (CP.out).mono ?_); (rintro e w2 ⟨rfl, q1, q2, q3⟩)); have D2 := hid_of q1; have B2 := hid_of (hb.out.trans ((Below.refl B wr).drew.trans q2)); have K2 := hid_of (K0.out.trans q3); have T2 := hid_of (ht.out.same q3.1); have C2 := hid_of (hcr.out.keep q3); obtain ⟨x0, x1, x2, x3⟩ := HKS.out w2 K2.out; clear q1 q2 q3))
        all_goals go_wp2
        all_goals go_roundw
        case rel => exact ⟨i + 1, at2, HIK.out, by go_num, HAT2, HG2, D2, T2, C2, B2, K2⟩
        case measure => have := HLT.out; have := HA2.out; simp [intOf]; omega
      · rw [decide_eq_false h0] at h9
        obtain ⟨jj, hjj⟩ : ∃ jj, k = i + 1 + jj := ⟨k - (i + 1), by omega⟩
        have e9 := filF_bad hg.out h0 jj
        rw [← hjj] at e9
        rw [show (writeF (filF M f l 0 i).2 (f + 1 + (0 + i) : Nat) (secL l M.sz (0 + i))).2 = (filF M f l 0 k).2 by rw [e9]] at h9
        have CP := hid_of h9
        have HG2 : Hid ((filF M f l 0 k).1 = false) := hid_of (by rw [e9])
        clear h9 h0 e9 cin bd S1 S2 S3 hat2 hj hdv hik hlt SA hy hjj
        go_wp2
        go_region_held3 (fun X => X.cell? ⟨w.heap.size, 0, none⟩ = some (.pointer (some ⟨b, 0, none⟩)) ∧ X.cell? ⟨w.heap.size, 1, none⟩ = some (.int .i64 f) ∧ X.cell? ⟨w.heap.size, 2, none⟩ = some (.int .i64 n) ∧ X.cell? ⟨w.heap.size, 3, none⟩ = some (.int .i64 z)) (exact HKS.out _ (Hid.out (by with_reducible assumption))) (first
          | (go_at_call 50; ((with_reducible refine (CP.out).mono ?_); (rintro e w2 ⟨rfl, q1, q2, q3⟩)); have D2 := hid_of q1; have B2 := hid_of (hb.out.trans ((Below.refl B wr).drew.trans q2)); have K2 := hid_of (K0.out.trans q3); have T2 := hid_of (ht.out.same q3.1); have C2 := hid_of (hcr.out.keep q3); obtain ⟨x0, x1, x2, x3⟩ := HKS.out w2 K2.out; clear q1 q2 q3))
        all_goals go_wp2
        all_goals go_ret
        all_goals exact ⟨by rw [HG2.out]; rfl, D2.out.sub HTS.out, B2.out, KB.out.trans (K2.out.sub HTS.out)⟩
    · have d1 : decide (at_ < bn) = false := decide_eq_false hlt
      obtain rfl : k = i := by
        rcases Nat.lt_or_ge i k with h9 | h9
        · have := HKB.out i h9; rw [← hat.out] at this; omega
        · omega
      go_wp2
      go_ret
      exact ⟨by rw [hg.out]; rfl, hd.out.sub HTS.out, hb.out, KB.out.trans (hkp.out.sub HTS.out)⟩
end Go.Proofs.YtlffiebnieakjaaDoor

/- Areas of sectors, rows being filled, what fill writes; a crash of a sector. Bounds on sizes alone. -/
namespace Go.Proofs.YtlffiebnieakjaaDoor
open Go.RowKit
set_option maxRecDepth 100000

/-- The sectors of an area, by a function of their number; the list that a region holds durably. -/
def areaF (c : Nat → List Int) : Nat → List Int
  | 0 => []
  | k + 1 => areaF c k ++ c k
theorem areaF_congr {c d : Nat → List Int} : ∀ k, (∀ i, i < k → c i = d i) → areaF c k = areaF d k
  | 0, _ => rfl
  | k + 1, h => by rw [areaF, areaF, areaF_congr k fun i hi => h i (by omega), h k (by omega)]
theorem areaF_len {c : Nat → List Int} {z : Nat} : ∀ k, (∀ i, i < k → (c i).length = z) → (areaF c k).length = k * z
  | 0, _ => by simp [areaF]
  | k + 1, h => by rw [areaF, List.length_append, areaF_len k fun i hi => h i (by omega), h k (by omega), Nat.succ_mul]
/-- An area whose sectors are those of a stream, as far as it goes, begins with the stream. -/
theorem areaF_take {c : Nat → List Int} {z : Nat} {L : List Int} : ∀ k, (∀ i, i < k → (c i).length = z ∧ (c i).take (L.length - i * z) = (L.drop (i * z)).take z) → (areaF c k).take L.length = L.take (k * z)
  | 0, _ => by simp [areaF]
  | k + 1, h => by
    have h1 := areaF_len (c := c) (z := z) k fun i hi => (h i (by omega)).1
    have h2 := areaF_take (c := c) (z := z) (L := L) k fun i hi => h i (by omega)
    rw [areaF, List.take_append, h1, h2, (h k (by omega)).2, Nat.succ_mul, List.take_add]
theorem crash_get (M : DM) (kp : List Bool) {s : Nat} (hs : s < M.secs.length) : (crashF M kp).secs.getD s [] ∈ mayF M s := keepF_may M.secs M.cache kp s hs _
/-- A row of l bytes into which i sectors have been copied. -/
def rowF (c : Nat → List Int) (l i : Nat) : List Int := (areaF c i).take l ++ List.replicate (l - (areaF c i).length) 0
theorem rowF_zero (c : Nat → List Int) (l : Nat) : rowF c l 0 = List.replicate l 0 := by simp [rowF, areaF]
theorem rowF_len (c : Nat → List Int) (l i : Nat) : (rowF c l i).length = l := by
  simp only [rowF, List.length_append, List.length_take, List.length_replicate]
  omega
theorem rowF_full {c : Nat → List Int} {l i : Nat} (h : l ≤ (areaF c i).length) : rowF c l i = (areaF c i).take l := by
  rw [rowF, show l - (areaF c i).length = 0 by omega, List.replicate_zero, List.append_nil]
theorem rowF_next {c : Nat → List Int} {l i : Nat} (h : (areaF c i).length ≤ l) : rowF c l (i + 1) = splice (rowF c l i) (areaF c i).length ((c i).take (l - (areaF c i).length)) := by
  have e1 : (areaF c i).take l = areaF c i := List.take_of_length_le h
  rw [splice, rowF, rowF, e1, areaF, List.take_append, e1, List.take_left, List.drop_append, List.drop_eq_nil_of_le (by omega), List.nil_append, List.append_assoc, List.drop_replicate, List.length_append, List.length_take]
  congr 2
  congr 1
  omega
theorem by8_splice (L x : List Int) (o : Nat) : splice (by8 L) o (by8 x) = by8 (splice L o x) := by
  simp [splice, by8, List.map_take, List.map_drop]
/-- More sectors than are needed change nothing. -/
theorem areaF_more {c : Nat → List Int} {l i : Nat} (h : l ≤ (areaF c i).length) : ∀ k, (areaF c (i + k)).take l = (areaF c i).take l
  | 0 => rfl
  | k + 1 => by
    have e := areaF_more h k
    have hl : (areaF c i).length ≤ (areaF c (i + k)).length := by
      clear e h
      induction k with
      | zero => exact Nat.le_refl _
      | succ k ih => rw [← Nat.add_assoc, areaF, List.length_append]; omega
    rw [← Nat.add_assoc, areaF, List.take_append_of_le_length (by omega), e]
theorem wrap_mul {k z lo : Nat} (h : lo = k * z) (h2 : lo ≤ 9223372036854775807) : IntKind.i64.wrap ((k : Int) * (z : Int)) = (lo : Int) := by
  rw [← Int.natCast_mul, ← h]
  exact IntWalk.i64_in _ (by omega)
theorem need_lt {l z k : Nat} (hz : 0 < z) (h : k < (l + z - 1) / z) : k * z < l := by
  have h1 := (Nat.le_div_iff_mul_le hz).1 h
  rw [Nat.succ_mul] at h1
  omega
theorem secL_agree (L : List Int) (sz k : Nat) : (secL L sz k).take (L.length - k * sz) = (L.drop (k * sz)).take sz := by
  unfold secL
  have h1 : ((L.drop (k * sz)).take sz).length = min sz (L.length - k * sz) := by simp
  rcases Nat.le_total sz (L.length - k * sz) with h | h
  · rw [show sz - ((L.drop (k * sz)).take sz).length = 0 by rw [h1]; omega, List.replicate_zero, List.append_nil, List.take_of_length_le (by rw [h1]; omega)]
  · rw [List.take_append_of_le_length (by rw [h1]; omega), List.take_of_length_le (by rw [h1]; omega)]
/-- The writes of fill. -/
theorem fil_may {M : DM} {fs : Nat} {L : List Int} {st : Nat} (hc : M.cache = []) : ∀ i, (∀ s, mayF (filF M fs L st i).2 s = [M.secs.getD s []] ∨ ∃ j, s = fs + 1 + j ∧ st ≤ j ∧ j < st + i ∧ mayF (filF M fs L st i).2 s = [M.secs.getD s [], secL L M.sz j]) ∧ ((filF M fs L st i).1 = true → ∀ j, st ≤ j → j < st + i → mayF (filF M fs L st i).2 (fs + 1 + j) = [M.secs.getD (fs + 1 + j) [], secL L M.sz j])
  | 0 => ⟨fun s => Or.inl (may_clean hc s), fun _ j h1 h2 => by omega⟩
  | i + 1 => by
    obtain ⟨ih1, ih2⟩ := fil_may hc (L := L) (fs := fs) (st := st) i
    by_cases h : (filF M fs L st i).1 = true
    · by_cases hw : (writeF (filF M fs L st i).2 (fs + 1 + (st + i) : Nat) (secL L M.sz (st + i))).1 = 0
      · rw [filF_good h hw]
        have hm := (may_write hw).2
        have hold : mayF (filF M fs L st i).2 (fs + 1 + (st + i)) = [M.secs.getD (fs + 1 + (st + i)) []] := by
          rcases ih1 (fs + 1 + (st + i)) with e | ⟨j, h1, _, h3, _⟩
          · exact e
          · omega
        have hnew : mayF (writeF (filF M fs L st i).2 (fs + 1 + (st + i) : Nat) (secL L M.sz (st + i))).2 (fs + 1 + (st + i)) = [M.secs.getD (fs + 1 + (st + i)) [], secL L M.sz (st + i)] := by
          rw [hm, if_pos (by rw [Int.toNat_natCast]), hold]
          rfl
        refine ⟨fun s => ?_, fun _ j h1 h2 => ?_⟩
        · by_cases e : s = fs + 1 + (st + i)
          · subst e
            exact Or.inr ⟨st + i, rfl, by omega, by omega, hnew⟩
          · show mayF (writeF (filF M fs L st i).2 (fs + 1 + (st + i) : Nat) (secL L M.sz (st + i))).2 s = _ ∨ _
            rw [hm, if_neg (by rw [Int.toNat_natCast]; exact e)]
            rcases ih1 s with e1 | ⟨j, h1, h2, h3, h4⟩
            · exact Or.inl e1
            · exact Or.inr ⟨j, h1, h2, by omega, h4⟩
        · by_cases e : j = st + i
          · subst e
            exact hnew
          · show mayF (writeF (filF M fs L st i).2 (fs + 1 + (st + i) : Nat) (secL L M.sz (st + i))).2 _ = _
            rw [hm, if_neg (by rw [Int.toNat_natCast]; omega)]
            exact ih2 h j h1 (by omega)
      · rw [show filF M fs L st (i + 1) = _ from filF_bad h hw 0]
        refine ⟨fun s => ?_, fun h9 => by cases h9⟩
        show mayF (writeF (filF M fs L st i).2 (fs + 1 + (st + i) : Nat) (secL L M.sz (st + i))).2 s = _ ∨ _
        rw [may_write_ne hw]
        rcases ih1 s with e1 | ⟨j, h1, h2, h3, h4⟩
        · exact Or.inl e1
        · exact Or.inr ⟨j, h1, h2, by omega, h4⟩
    · have e0 : filF M fs L st (i + 1) = filF M fs L st i := by rw [filF, if_neg h]
      rw [e0]
      refine ⟨fun s => ?_, fun h9 => absurd h9 h⟩
      rcases ih1 s with e1 | ⟨j, h1, h2, h3, h4⟩
      · exact Or.inl e1
      · exact Or.inr ⟨j, h1, h2, by omega, h4⟩
theorem fil_rest {M : DM} {fs : Nat} {L : List Int} {st n s : Nat} (hc : M.cache = []) (hs : ∀ j, st ≤ j → j < st + n → s ≠ fs + 1 + j) : mayF (filF M fs L st n).2 s = [M.secs.getD s []] := by
  rcases (fil_may hc n).1 s with e | ⟨j, h1, h2, h3, _⟩
  · exact e
  · exact absurd h1 (hs j h2 h3)
/-- A sector is written and synced. -/
def wsF (M : DM) (s : Nat) (l : List Int) : Bool × DM := if (writeF M s l).1 = 0 then (decide ((syncF (writeF M s l).2).1 = 0), (syncF (writeF M s l).2).2) else (false, (writeF M s l).2)
/-- Sectors are written, and synced. -/
def fillF (M : DM) (fs : Nat) (L : List Int) (st n : Nat) : Bool × DM := if (filF M fs L st n).1 = true then (decide ((syncF (filF M fs L st n).2).1 = 0), (syncF (filF M fs L st n).2).2) else filF M fs L st n
/-- The head is written and synced. -/
theorem ws_true {M : DM} {fs : Nat} {l : List Int} (hc : M.cache = []) (h : (wsF M fs l).1 = true) : (wsF M fs l).2.off = false ∧ (wsF M fs l).2.secs = M.secs.set fs (l) ∧ (wsF M fs l).2.cache = [] ∧ (wsF M fs l).2.sz = M.sz := by
  unfold wsF at h ⊢
  split
  · rename_i hw
    rw [if_pos hw] at h
    have hs : (syncF (writeF M fs (l)).2).1 = 0 := by simpa using h
    obtain ⟨a1, a2, a3, a4⟩ := write_ok hw
    obtain ⟨b1, b2, b3, b4⟩ := sync_ok hs
    refine ⟨b1, ?_, b3, b4.trans a4⟩
    show (syncF (writeF M fs (l)).2).2.secs = _
    rw [b2, a2, a3, hc]
    rfl
  · rename_i hw
    rw [if_neg hw] at h
    cases h
theorem ws_false {M : DM} {fs : Nat} {l : List Int} (hc : M.cache = []) (h : (wsF M fs l).1 = false) : ∀ s, mayF (wsF M fs l).2 s = [M.secs.getD s []] ∨ (s = fs ∧ mayF (wsF M fs l).2 s = [M.secs.getD s [], l]) := fun s => by
  unfold wsF at h ⊢
  split
  · rename_i hw
    rw [if_pos hw] at h
    have hs : ¬ (syncF (writeF M fs (l)).2).1 = 0 := by simpa using h
    show mayF (syncF (writeF M fs (l)).2).2 s = _ ∨ _
    rw [may_sync_ne hs, (may_write hw).2 s, may_clean hc]
    by_cases e : s = fs
    · right
      rw [if_pos (by rw [e]; rfl)]
      exact ⟨e, rfl⟩
    · left
      rw [if_neg (by rw [Int.toNat_natCast]; exact e)]
  · rename_i hw
    left
    show mayF (writeF M fs (l)).2 s = _
    rw [may_write_ne hw, may_clean hc]
/-- All of fill went well. -/
theorem fill_true {M : DM} {fs : Nat} {L : List Int} {st n : Nat} (hc : M.cache = []) (hn : ∀ j, st ≤ j → j < st + n → fs + 1 + j < M.secs.length) (h : (fillF M fs L st n).1 = true) : (fillF M fs L st n).2.off = false ∧ (fillF M fs L st n).2.cache = [] ∧ (fillF M fs L st n).2.sz = M.sz ∧ (∀ j, st ≤ j → j < st + n → (fillF M fs L st n).2.secs.getD (fs + 1 + j) [] = secL L M.sz j) ∧ (∀ s, s < M.secs.length → (∀ j, st ≤ j → j < st + n → s ≠ fs + 1 + j) → (fillF M fs L st n).2.secs.getD s [] = M.secs.getD s []) := by
  unfold fillF at h ⊢
  split
  · rename_i hf
    rw [if_pos hf] at h
    have hs : (syncF (filF M fs L st n).2).1 = 0 := by simpa using h
    obtain ⟨b1, b2, b3, b4⟩ := sync_ok hs
    have hse := (filF_same M fs L st n).1
    refine ⟨b1, b3, b4.trans (filF_same M fs L st n).2.1, fun j h1 h2 => ?_, fun s h1 h2 => ?_⟩
    · have e := may_sync hs (s := fs + 1 + j) (by rw [hse]; exact hn j h1 h2)
      have e2 := (fil_may hc n).2 hf j h1 h2
      refine clean_may (x := []) b3 (e.trans ?_)
      simp only [e2]
      rfl
    · have e := may_sync hs (s := s) (by rw [hse]; exact h1)
      have e2 := fil_rest (L := L) hc h2
      refine clean_may (x := []) b3 (e.trans ?_)
      simp only [e2]
      rfl
  · rename_i hf
    rw [if_neg hf] at h
    exact absurd h hf
theorem fill_false {M : DM} {fs : Nat} {L : List Int} {st n : Nat} (hc : M.cache = []) (h : (fillF M fs L st n).1 = false) (s : Nat) : mayF (fillF M fs L st n).2 s = [M.secs.getD s []] ∨ ∃ j, s = fs + 1 + j ∧ mayF (fillF M fs L st n).2 s = [M.secs.getD s [], secL L M.sz j] := by
  have hk : ∀ s, mayF (filF M fs L st n).2 s = [M.secs.getD s []] ∨ ∃ j, s = fs + 1 + j ∧ mayF (filF M fs L st n).2 s = [M.secs.getD s [], secL L M.sz j] := fun s => by
    rcases (fil_may hc n).1 s with e | ⟨j, h1, _, _, h4⟩
    · exact Or.inl e
    · exact Or.inr ⟨j, h1, h4⟩
  unfold fillF at h ⊢
  split
  · rename_i hf
    rw [if_pos hf] at h
    have hs : ¬ (syncF (filF M fs L st n).2).1 = 0 := by simpa using h
    show mayF (syncF (filF M fs L st n).2).2 s = _ ∨ _
    rw [may_sync_ne hs]
    exact hk s
  · exact hk s
end Go.Proofs.YtlffiebnieakjaaDoor

/- Checkpoint: a number is put into bytes, the highest first. Bounds on sizes alone. -/
namespace Go.Proofs.YtlffiebnieakjaaDoor
open Go.RowKit
set_option maxRecDepth 100000
set_option maxHeartbeats 1600000

/-- A row of bytes in block g, all of it. -/
def Brow (w : World) (g t : Nat) (D : List Int) : Prop := w.heap[g]? = some (.cells (by8 D).toArray t (0, 0))
theorem Brow.cell {w : World} {g t : Nat} {D : List Int} (h : Brow w g t D) {j : Nat} (hj : j < D.length) : w.cell? ⟨g, j, none⟩ = some (.int .u8 (D.getD j 0)) := by
  refine cell_blk h ?_
  rw [by8, List.getElem?_map, List.getElem?_eq_getElem hj, List.getD_eq_getElem?_getD, List.getElem?_eq_getElem hj]
  rfl
theorem Brow.free {w : World} {g t : Nat} {D : List Int} (h : Brow w g t D) (j : Nat) : w.frozen? ⟨g, j, none⟩ = false := frozen_of_row _ _ _ _ _ h
theorem Brow.set {w : World} {g t : Nat} {D : List Int} (h : Brow w g t D) (j : Nat) (x : Int) : Brow (w.setCell ⟨g, j, none⟩ (.int .u8 x)) g t (D.set j x) := by
  unfold Brow
  refine (heap_setCell_same _ _ _ _ _ _ h).trans (congrArg (fun x => some (Obj.cells x t (0, 0))) ?_)
  apply Array.ext'
  simp [by8, List.map_set]
theorem Brow.later {w w' : World} {g t : Nat} {D : List Int} (h : Brow w g t D) (hb : w'.heap[g]? = w.heap[g]?) : Brow w' g t D := hb.trans h
theorem Brow.lt {w : World} {g t : Nat} {D : List Int} (h : Brow w g t D) : g < w.heap.size := lt_of_block h
/-- The lowest i bytes of m are in place, of n bytes from o on. -/
def putR (D : List Int) (o n m i : Nat) : List Int := D.take (o + n - i) ++ (beF m i ++ D.drop (o + n))
theorem putR_zero (D : List Int) (o n m : Nat) : putR D o n m 0 = D := by simp [putR, beF]
theorem putR_len {D : List Int} {o n m i : Nat} (h : o + n ≤ D.length) (hi : i ≤ n) : (putR D o n m i).length = D.length := by
  simp only [putR, List.length_append, List.length_take, List.length_drop, beF_len]
  omega
theorem putR_step {D : List Int} {o n m i : Nat} (h : o + n ≤ D.length) (hi : i < n) : (putR D o n m i).set (o + (n - 1 - i)) ((m / 256 ^ i % 256 : Nat) : Int) = putR D o n m (i + 1) := by
  have e1 : D.take (o + n - i) = D.take (o + n - (i + 1)) ++ [D.getD (o + n - (i + 1)) 0] := by
    rw [show o + n - i = (o + n - (i + 1)) + 1 by omega, List.take_add_one, List.getElem?_eq_getElem (by omega), List.getD_eq_getElem?_getD, List.getElem?_eq_getElem (by omega)]
    rfl
  have e2 : (D.take (o + n - (i + 1))).length = o + (n - 1 - i) := by rw [List.length_take]; omega
  rw [putR, putR, beF, e1, List.append_assoc, ← e2, List.set_append_right _ _ (Nat.le_refl _), Nat.sub_self]
  rfl
theorem byte_at (m i : Nat) : (m : Int) / 2 ^ (8 * i) % 256 = ((m / 256 ^ i % 256 : Nat) : Int) := by
  rw [show (256 : Nat) = 2 ^ 8 from rfl, ← Nat.pow_mul]
  norm_cast
theorem putNumber_any (g t o n cap m : Nat) (D : List Int) (w : World) (h : Brow w g t D) (ho : o + n ≤ D.length) (hn : n ≤ 8) (hm : m < 18446744073709551616) :
    Calls Tryd.prog 57 #[.slice (some ⟨g, o, none⟩) n cap, .int .u64 m] w fun e w' => e = .returned (.tuple #[]) ∧ Brow w' g t (putR D o n m n) ∧ Kept (fun k => k = g) w w' := by
  have HB := hid_of h
  have HO := hid_of ho
  have HM := hid_of hm
  clear h ho
  go_enter Tryd.func57, Tryd.ntmps57
  go_wp2
  go_loopw [7] (fun iv wr => ∃ i : Nat, i ≤ n ∧ iv = .int .i64 i ∧ Hid (Brow wr g t (putR D o n m i)) ∧ Hid (Kept (fun k => k = g) w wr)) (fun iv _ => n - (intOf iv).toNat)
  case atStart => exact ⟨0, Nat.zero_le _, rfl, hid_of (by rw [putR_zero]; exact HB.out), hid_of (Kept.refl _ _)⟩
  case round =>
    obtain ⟨i, hi, rfl, hb, hk⟩ := hrel
    by_cases hlt : i < n
    · have d1 : decide (i < n) = true := decide_eq_true hlt
      have hlt' : (i : Int) < (n : Int) := by omega
      obtain ⟨p, hp⟩ : ∃ p, p = n - 1 := ⟨_, rfl⟩
      obtain ⟨q, hq⟩ : ∃ q, q = p - i := ⟨_, rfl⟩
      obtain ⟨s, hs⟩ : ∃ s, s = 8 * i := ⟨_, rfl⟩
      have s1 : IntKind.i64.wrap ((n : Int) - 1) = (p : Int) := by rw [show (n : Int) - 1 = (p : Int) by omega]; exact IntWalk.i64_in _ (by omega)
      have s1b : (n : Int) - 1 = (p : Int) := by omega
      have s2 : IntKind.i64.wrap ((p : Int) - (i : Int)) = (q : Int) := by rw [show (p : Int) - (i : Int) = (q : Int) by omega]; exact IntWalk.i64_in _ (by omega)
      have s2b : (p : Int) - (i : Int) = (q : Int) := by omega
      have s3 : IntKind.i64.wrap (8 * (i : Int)) = (s : Int) := by rw [show 8 * (i : Int) = (s : Int) by omega]; exact IntWalk.i64_in _ (by omega)
      have s3b : 8 * (i : Int) = (s : Int) := by omega
      have q9 : (q : Int) < (n : Int) := by omega
      have HE : Hid ((m : Int) / 2 ^ s % 256 = ((m / 256 ^ i % 256 : Nat) : Int)) := hid_of (by rw [hs]; exact byte_at m i)
      have HQ : Hid (o + q = o + (n - 1 - i)) := hid_of (by omega)
      have HLT := hid_of hlt
      have c0 := hb.out.cell (j := o + q) (by rw [putR_len HO.out hi]; have := HO.out; omega)
      have f0 := hb.out.free (o + q)
      clear hp hq hs
      go_wp2
      go_roundw
      case rel =>
        refine ⟨i + 1, HLT.out, by go_num, hid_of ?_, hid_of (hk.out.trans (Kept.set _ _ _ _))⟩
        have h9 := hb.out.set (o + q) ((m : Int) / 2 ^ s % 256)
        rw [HE.out] at h9 ⊢
        rw [HQ.out, putR_step HO.out HLT.out] at h9
        rw [HQ.out]
        exact h9
      case measure => have := HLT.out; simp [intOf]; omega
    · obtain rfl : i = n := by omega
      have d1 : decide (i < i) = false := by simp
      go_wp2
      go_end0
      exact ⟨rfl, hb.out, hk.out⟩
end Go.Proofs.YtlffiebnieakjaaDoor

/- The mathematics of SHA-256 as the program computes it: words as integers from 0 to 2^32 - 1. No condition. -/
namespace Go.Proofs.YtlffiebnieakjaaDoor.Sh
open Go.RowKit

def W32 (x : Int) : Prop := 0 ≤ x ∧ x ≤ 4294967295
theorem bits_w32 (op : BinOp) (x y : Int) : W32 (bits op .u32 x y) := by
  unfold bits
  rw [IntKind.wrap_u32]
  unfold W32
  omega

def rot (x : Int) (n : Nat) : Int := bits .or .u32 (x / 2 ^ n) (x * 2 ^ (32 - n) % 4294967296)
def up0 (x : Int) : Int := bits .xor .u32 (bits .xor .u32 (rot x 2) (rot x 13)) (rot x 22)
def up1 (x : Int) : Int := bits .xor .u32 (bits .xor .u32 (rot x 6) (rot x 11)) (rot x 25)
def lo0 (x : Int) : Int := bits .xor .u32 (bits .xor .u32 (rot x 7) (rot x 18)) (x / 8)
def lo1 (x : Int) : Int := bits .xor .u32 (bits .xor .u32 (rot x 17) (rot x 19)) (x / 1024)
def cho (x y z : Int) : Int := bits .xor .u32 (bits .and .u32 x y) (bits .and .u32 (bits .xor .u32 IntKind.u32.max x) z)
def maj (x y z : Int) : Int := bits .xor .u32 (bits .xor .u32 (bits .and .u32 x y) (bits .and .u32 x z)) (bits .and .u32 y z)
def ad (x y : Int) : Int := (x + y) % 4294967296

theorem rot_w (x : Int) (n : Nat) : W32 (rot x n) := bits_w32 _ _ _
theorem up0_w (x : Int) : W32 (up0 x) := bits_w32 _ _ _
theorem up1_w (x : Int) : W32 (up1 x) := bits_w32 _ _ _
theorem lo0_w (x : Int) : W32 (lo0 x) := bits_w32 _ _ _
theorem lo1_w (x : Int) : W32 (lo1 x) := bits_w32 _ _ _
theorem cho_w (x y z : Int) : W32 (cho x y z) := bits_w32 _ _ _
theorem maj_w (x y z : Int) : W32 (maj x y z) := bits_w32 _ _ _
theorem ad_w (x y : Int) : W32 (ad x y) := by unfold W32 ad; omega

example : up0 1779033703 = 3458249854 := by decide
end Go.Proofs.YtlffiebnieakjaaDoor.Sh

/- The words of SHA-256: the small functions on 32 bits. No condition but bounds. -/
namespace Go.Proofs.YtlffiebnieakjaaDoor.Sh
open Go.RowKit

theorem rotate_any (x : Int) (n : Nat) (w : World) (hx : 0 ≤ x) (hx2 : x ≤ 4294967295) (hn : 1 ≤ n) (hn2 : n ≤ 31) :
    Calls Tryd.prog 73 #[.int .u32 x, .int .u64 n] w fun e w' => e = .returned (.int .u32 (rot x n)) ∧ w = w' := by
  go_enter Tryd.func73, Tryd.ntmps73
  go_wp2
  go_ret
  exact ⟨rfl, rfl⟩
theorem choose_any (x y z : Int) (w : World) (hx : W32 x) (hy : W32 y) (hz : W32 z) :
    Calls Tryd.prog 68 #[.int .u32 x, .int .u32 y, .int .u32 z] w fun e w' => e = .returned (.int .u32 (cho x y z)) ∧ w = w' := by
  obtain ⟨x0, x1⟩ := hx
  obtain ⟨y0, y1⟩ := hy
  obtain ⟨z0, z1⟩ := hz
  have hs : IntKind.u32.signed = false := rfl
  go_enter Tryd.func68, Tryd.ntmps68
  go_wp2
  go_ret
  exact ⟨rfl, rfl⟩
theorem majority_any (x y z : Int) (w : World) (hx : W32 x) (hy : W32 y) (hz : W32 z) :
    Calls Tryd.prog 70 #[.int .u32 x, .int .u32 y, .int .u32 z] w fun e w' => e = .returned (.int .u32 (maj x y z)) ∧ w = w' := by
  obtain ⟨x0, x1⟩ := hx
  obtain ⟨y0, y1⟩ := hy
  obtain ⟨z0, z1⟩ := hz
  go_enter Tryd.func70, Tryd.ntmps70
  go_wp2
  go_ret
  exact ⟨rfl, rfl⟩
theorem rot_at (x : Int) (m : Int) (n : Nat) (w : World) (hx : W32 x) (hm : m = n) (hn : 1 ≤ n) (hn2 : n ≤ 31) :
    Calls Tryd.prog 73 #[.int .u32 x, .int .u64 m] w fun e w' => e = .returned (.int .u32 (rot x n)) ∧ w = w' := by
  subst hm; exact rotate_any x n w hx.1 hx.2 hn hn2
theorem upper0_any (x : Int) (w : World) (hx : W32 x) :
    Calls Tryd.prog 69 #[.int .u32 x] w fun e w' => e = .returned (.int .u32 (up0 x)) ∧ w = w' := by
  go_enter Tryd.func69, Tryd.ntmps69
  go_wp2_with (first
    | (go_at_call 73; ((with_reducible refine (rot_at x 2 2 w hx rfl (by omega) (by omega)).mono ?_); rintro e w' ⟨rfl, rfl⟩))
    | (go_at_call 73; ((with_reducible refine (rot_at x 13 13 w hx rfl (by omega) (by omega)).mono ?_); rintro e w' ⟨rfl, rfl⟩))
    | (go_at_call 73; ((with_reducible refine (rot_at x 22 22 w hx rfl (by omega) (by omega)).mono ?_); rintro e w' ⟨rfl, rfl⟩)))
  go_ret
  exact ⟨rfl, rfl⟩
theorem upper1_any (x : Int) (w : World) (hx : W32 x) :
    Calls Tryd.prog 67 #[.int .u32 x] w fun e w' => e = .returned (.int .u32 (up1 x)) ∧ w = w' := by
  go_enter Tryd.func67, Tryd.ntmps67
  go_wp2_with (first
    | (go_at_call 73; ((with_reducible refine (rot_at x 6 6 w hx rfl (by omega) (by omega)).mono ?_); rintro e w' ⟨rfl, rfl⟩))
    | (go_at_call 73; ((with_reducible refine (rot_at x 11 11 w hx rfl (by omega) (by omega)).mono ?_); rintro e w' ⟨rfl, rfl⟩))
    | (go_at_call 73; ((with_reducible refine (rot_at x 25 25 w hx rfl (by omega) (by omega)).mono ?_); rintro e w' ⟨rfl, rfl⟩)))
  go_ret
  exact ⟨rfl, rfl⟩
theorem lower0_any (x : Int) (w : World) (hx : W32 x) :
    Calls Tryd.prog 72 #[.int .u32 x] w fun e w' => e = .returned (.int .u32 (lo0 x)) ∧ w = w' := by
  have hx1 := hx.1
  have hx2 := hx.2
  go_enter Tryd.func72, Tryd.ntmps72
  go_wp2_with (first
    | (go_at_call 73; ((with_reducible refine (rot_at x 7 7 w hx rfl (by omega) (by omega)).mono ?_); rintro e w' ⟨rfl, rfl⟩))
    | (go_at_call 73; ((with_reducible refine (rot_at x 18 18 w hx rfl (by omega) (by omega)).mono ?_); rintro e w' ⟨rfl, rfl⟩)))
  go_ret
  exact ⟨rfl, rfl⟩
theorem lower1_any (x : Int) (w : World) (hx : W32 x) :
    Calls Tryd.prog 71 #[.int .u32 x] w fun e w' => e = .returned (.int .u32 (lo1 x)) ∧ w = w' := by
  have hx1 := hx.1
  have hx2 := hx.2
  go_enter Tryd.func71, Tryd.ntmps71
  go_wp2_with (first
    | (go_at_call 73; ((with_reducible refine (rot_at x 17 17 w hx rfl (by omega) (by omega)).mono ?_); rintro e w' ⟨rfl, rfl⟩))
    | (go_at_call 73; ((with_reducible refine (rot_at x 19 19 w hx rfl (by omega) (by omega)).mono ?_); rintro e w' ⟨rfl, rfl⟩)))
  go_ret
  exact ⟨rfl, rfl⟩
end Go.Proofs.YtlffiebnieakjaaDoor.Sh
