/- Texts in one: JnF, JrU, JrV, JrL8. -/
import Derived.Test.YtofmijebinnejaaMgRE
set_option linter.unusedVariables false
set_option linter.unusedSimpArgs false
/- A disk with a full cache that does not fail, as mathematics: the journal's operations act as on its contents. Bounds on sizes alone. -/
namespace Go.Proofs.Ytofmijebinnejaa
set_option maxRecDepth 100000

/-- The disk, if its cache were written. -/
def flat (M : DM) : DM := { M with secs := putF M.secs M.cache, cache := [] }
theorem flat_clean {M : DM} (h : M.cache = []) : flat M = M := by
  obtain ⟨a, b, c, d, e⟩ := M
  simp only at h
  subst h
  rfl
theorem putF_append (S : List (List Int)) (a b : List (Nat × List Int)) : putF S (a ++ b) = putF (putF S a) b := by unfold putF; rw [List.foldl_append]
theorem flat_len (M : DM) : (flat M).secs.length = M.secs.length := putF_len _ _
theorem nf_flat {M : DM} (h : NF M) : NF (flat M) := h
theorem nf_step_eq {M : DM} (h : NF M) : stepF M = (true, M) := by
  unfold stepF
  rw [if_neg (by rw [h.1, h.2]; simp), h.2]
  obtain ⟨a, b, c, d, e⟩ := M
  have : e = -1 := h.2
  subst this
  rfl
theorem nf_write_eq {M : DM} (h : NF M) {s : Nat} {l : List Int} (hs : s < M.secs.length) (hl : l.length = M.sz) : writeF M s l = (0, { M with cache := M.cache ++ [(s, l)] }) := by
  have hf : M.fits s = true := by simp only [DM.fits, decide_eq_true_eq]; omega
  unfold writeF
  rw [if_neg (by rw [hf]; simp [hl]), nf_step_eq h, if_neg (by simp), Int.toNat_natCast]
theorem nf_sync_eq {M : DM} (h : NF M) : syncF M = (0, flat M) := by
  unfold syncF
  rw [nf_step_eq h, if_neg (by simp)]
  rfl
theorem flat_ok {M : DM} (h : NF M) (hok : M.Ok) : (flat M).Ok := by
  have := hok.sync
  rwa [nf_sync_eq h] at this
/-- The writes of fill. -/
def wsF (fs : Nat) (L : List Int) (sz st : Nat) : Nat → List (Nat × List Int)
  | 0 => []
  | i + 1 => wsF fs L sz st i ++ [(fs + 1 + (st + i), secL L sz (st + i))]
theorem nf_fil_eq {M : DM} (h : NF M) {fs st : Nat} {L : List Int} : ∀ i, fs + 1 + (st + i) ≤ M.secs.length → filF M fs L st i = (true, { M with cache := M.cache ++ wsF fs L M.sz st i })
  | 0, _ => by
    show (true, M) = _
    rw [wsF, List.append_nil]
  | i + 1, hi => by
    have ih := nf_fil_eq h (fs := fs) (st := st) (L := L) i (by omega)
    rw [filF, ih]
    have hw := nf_write_eq (M := { M with cache := M.cache ++ wsF fs L M.sz st i }) h (s := fs + 1 + (st + i)) (l := secL L M.sz (st + i)) (by show _ < M.secs.length; omega) (secL_len _ _ _)
    simp only [if_true, hw, wsF, List.append_assoc]
    rfl
theorem flat_more (M : DM) (ws : List (Nat × List Int)) : flat { M with cache := M.cache ++ ws } = flat { flat M with cache := (flat M).cache ++ ws } := by
  show ({ M with secs := putF M.secs (M.cache ++ ws), cache := [] } : DM) = { M with secs := putF (putF M.secs M.cache) ([] ++ ws), cache := [] }
  rw [putF_append, List.nil_append]
theorem nf_fill_eq {M : DM} (h : NF M) {fs st n : Nat} {L : List Int} (hn : fs + 1 + (st + n) ≤ M.secs.length) : fillF M fs L st n = fillF (flat M) fs L st n := by
  have h1 := nf_fil_eq h (L := L) n hn
  have h2 := nf_fil_eq (nf_flat h) (L := L) n (by rw [flat_len]; exact hn)
  have h3 := nf_sync_eq (M := { M with cache := M.cache ++ wsF fs L M.sz st n }) h
  have h4 := nf_sync_eq (M := { flat M with cache := (flat M).cache ++ wsF fs L (flat M).sz st n }) h
  unfold fillF
  rw [h1, h2]
  simp only [if_true]
  rw [h3, h4, flat_more]
  rfl
theorem nf_com_eq {M : DM} (h : NF M) {fs n : Nat} (hs : fs < M.secs.length) (hz : 16 ≤ M.sz) (hn : n ≤ 268435456) : comF M fs n = comF (flat M) fs n := by
  have h1 := nf_write_eq h hs (headF_len hn hz)
  have h2 := nf_write_eq (nf_flat h) (s := fs) (l := headF (flat M).sz n) (by rw [flat_len]; exact hs) (headF_len hn hz)
  have h3 := nf_sync_eq (M := { M with cache := M.cache ++ [(fs, headF M.sz n)] }) h
  have h4 := nf_sync_eq (M := { flat M with cache := (flat M).cache ++ [(fs, headF (flat M).sz n)] }) h
  unfold comF
  rw [h1, h2]
  simp only [if_true]
  rw [h3, h4, flat_more]
  rfl
theorem Fit.flat {M : DM} {fs ct : Nat} {d : List Int} (f : Fit M fs ct d) (h : NF M) : Fit (flat M) fs ct d := ⟨flat_ok h f.ok, by rw [flat_len]; exact f.reg, f.len, f.sz⟩
theorem nf_app_eq {M : DM} (h : NF M) {fs ct : Nat} {d T : List Int} (f : Fit M fs ct d) (hL : (d ++ T).length ≤ (ct - 1) * M.sz) : appF M fs d (d ++ T) = appF (flat M) fs d (d ++ T) := by
  have hreg := f.reg
  obtain ⟨r1, r2, r3⟩ := fil_range f hL
  have h1 : filA M fs d (d ++ T) = filA (flat M) fs d (d ++ T) := nf_fill_eq h (by rw [r1]; omega)
  unfold appF
  rw [h1]
/-- What Read gives, through the cache. -/
theorem look_put (S : List (List Int)) (c : List (Nat × List Int)) {s : Nat} (hs : s < S.length) : ∀ k, k ≤ c.length → (lookF c s k).getD (S.getD s []) = (putF S (c.take k)).getD s []
  | 0, _ => rfl
  | k + 1, hk => by
    have ih := look_put S c hs k (by omega)
    have hp : c[k]? = some c[k] := List.getElem?_eq_getElem (by omega)
    rw [lookF, hp, putF_take S c k _ hp]
    simp only []
    by_cases e : c[k].1 = s
    · rw [if_pos e, e, getD_set (by rw [putF_len]; exact hs)]
      rfl
    · rw [if_neg e, getD_ne e]
      exact ih
theorem read_flat {M : DM} (ho : M.off = false) {s : Nat} (hs : s < M.secs.length) : (readF M (s : Int)).1 = (flat M).secs.getD s [] ∧ (readF M (s : Int)).2 = 0 := by
  have hf : M.fits s = true := by simp only [DM.fits, decide_eq_true_eq]; omega
  rw [readF, if_neg (by rw [hf]; simp), if_neg (by rw [ho]; simp)]
  refine ⟨?_, rfl⟩
  show M.content (s : Int).toNat = _
  rw [Int.toNat_natCast, DM.content, look_put M.secs M.cache hs _ (Nat.le_refl _), List.take_length]
  rfl
/-- A region of zeros, read through the cache. -/
theorem zero_region {M : DM} {fs ct : Nat} (hok : M.Ok) (ho : M.off = false) (hreg : fs + ct ≤ M.secs.length ∧ 2 ≤ ct) (hz : ∀ s, fs ≤ s → s < fs + ct → (flat M).secs.getD s [] = List.replicate M.sz 0) (hn : NF M) : RdOk M fs ct ∧ holdsF (headC M fs) (areaC M fs ct) = some [] ∧ Good (flat M) fs ct (streamF []) := by
  have h1 : headC M fs = List.replicate M.sz 0 := (read_flat ho (s := fs) (by omega)).1.trans (hz fs (Nat.le_refl _) (by omega))
  have h2 : ∀ i, i < ct - 1 → secC M fs i = List.replicate M.sz 0 := fun i hi => (read_flat ho (s := fs + 1 + i) (by omega)).1.trans (hz _ (by omega) (by omega))
  have hr : ∀ x ∈ List.replicate M.sz (0 : Int), 0 ≤ x ∧ x ≤ 255 := fun x hx => by have := List.eq_of_mem_replicate hx; omega
  refine ⟨⟨by rw [h1]; simp, by rw [h1]; exact hr, fun i hi => by rw [h2 i hi]; simp, fun i hi => by rw [h2 i hi]; exact hr⟩, by rw [h1]; exact hold_zero, rfl, hn.1, ?_, fun i hi => agr_high (by simp [streamF])⟩
  rw [hz fs (Nat.le_refl _) (by omega), hd_zero]
  rfl
end Go.Proofs.Ytofmijebinnejaa

/- Two journals on one disk that does not fail. Bounds on sizes alone. -/
namespace Go.Proofs.Ytofmijebinnejaa
open Go.RowKit
set_option maxRecDepth 100000
set_option maxHeartbeats 3200000

section
variable (S SD T : Nat → Prop) (w : World) (jb b : Nat) (M : DM) (fs ct : Nat) (R : List (List Int)) (vs : Value)
/-- What an operation gives where the disk does not fail, whatever its cache holds. -/
def NfQ (w' : World) (rs : Bool) (X : List (List Int)) (cd : Int) : Prop := cd = (nxtF R rs X ((ct - 1) * M.sz)).2 ∧ ∃ M', JkNx S w w' jb b M' fs ct (nxtF R rs X ((ct - 1) * M.sz)).1 true ∧ Kept S w w' ∧ NF M' ∧ M'.sz = M.sz ∧ M'.secs.length = M.secs.length ∧ M'.cache.length ≤ M.cache.length ∧ Good (flat M') fs ct (streamF (nxtF R rs X ((ct - 1) * M.sz)).1) ∧ ∀ s, s < M.secs.length → s < fs ∨ fs + ct ≤ s → (flat M').secs.getD s [] = (flat M).secs.getD s []
theorem rst_nf (X : List (List Int)) (h : JK S SD w jb b M fs ct (streamF R) true vs) (hlt : ∀ k, S k → k < w.heap.size) (hc : M.cache.length + 65536 < 1000000) (hn : NF M) (hg : Good (flat M) fs ct (streamF R)) :
    Calls Try.prog 35 #[.pointer (some ⟨jb, 0, none⟩)] w fun e w' => ∃ cd, e = .returned (.int .i64 cd) ∧ NfQ S w jb b M fs ct R w' true X cd := by
  have f := h.fit
  have hreg := f.reg
  have hcl := f.bound
  have he := nf_com_eq hn (fs := fs) (n := 0) (by omega) f.sz (by omega)
  obtain ⟨n1, n2⟩ := nf_com hn (fs := fs) (n := 0) (by omega) f.sz (by omega)
  obtain ⟨s1, s2, s3⟩ := comF_same M fs 0
  obtain ⟨g1, g2⟩ := reset_true hg (f.flat hn) (by rw [← he]; exact n1)
  rw [← he] at g1 g2
  refine (reset_on S SD w jb b M fs ct (streamF R) vs h hlt hn.1 (by omega)).mono fun e w' ⟨q1, ⟨SD2, q2⟩, q3⟩ => ⟨0, by rw [q1, if_pos n1], rfl, (comF M fs 0).2, ⟨_, SD2, _, by rw [if_pos n1, if_pos n1, n1] at q2; exact q2, fun k hk => hk⟩, q3, n2, s2, s1, by rw [g1.clean]; simp, by rw [flat_clean g1.clean]; exact g1, fun s _ h3 => ?_⟩
  rw [flat_clean g1.clean]
  exact g2 s (by omega)
theorem app_nf (X : List (List Int)) (a : Option Addr) (n c : Nat) (h : JK S SD w jb b M fs ct (streamF R) true vs) (hlt : ∀ k, S k → k < w.heap.size) (hT0 : ∀ k, T k → k < w.heap.size ∧ ¬ S k) (hR : RB T w (.slice a n c) X) (hl : (streamF X).length ≤ 1000000000) (hc : M.cache.length + 65536 < 1000000) (hn : NF M) (hg : Good (flat M) fs ct (streamF R)) :
    Calls Try.prog 32 #[.pointer (some ⟨jb, 0, none⟩), .slice a n c] w fun e w' => ∃ cd, e = .returned (.int .i64 cd) ∧ NfQ S w jb b M fs ct R w' false X cd := by
  have f := h.fit
  have hreg := f.reg
  have hcl := f.bound
  have hT : ∀ k, T k → k < w.heap.size ∧ k ≠ jb := fun k hk => ⟨(hT0 k hk).1, fun e => (hT0 k hk).2 (by rw [e]; exact h.sj)⟩
  have hsl : (streamF (R ++ X)).length = (streamF R).length + (streamF X).length := by rw [stream_append, List.length_append]
  by_cases hsm : ¬ ((streamF R).length + (streamF X).length ≤ (ct - 1) * M.sz) ∨ X = []
  · have hnx : nxtF R false X ((ct - 1) * M.sz) = (R, if (streamF R).length + (streamF X).length ≤ (ct - 1) * M.sz then 0 else 7) := by
      unfold nxtF
      rw [if_neg (by simp), hsl]
      by_cases hfit : (streamF R).length + (streamF X).length ≤ (ct - 1) * M.sz
      · rcases hsm with h3 | h3
        · exact absurd hfit h3
        · rw [if_pos hfit, if_neg (by omega), h3, List.append_nil]
      · rw [if_neg hfit, if_pos (by omega)]
    refine (append_small S SD T w jb b M fs ct (streamF R) vs X a n c h hlt hn.1 hT hR hl hsm).mono fun e w' ⟨q1, q2, q3⟩ => ⟨_, q1, ?_⟩
    unfold NfQ
    rw [hnx]
    exact ⟨rfl, M, ⟨_, _, _, q2, fun k hk => Or.inl hk⟩, q3, hn, rfl, rfl, Nat.le_refl _, hg, fun _ _ _ => rfl⟩
  · simp only [not_or, Decidable.not_not] at hsm
    obtain ⟨hfit, hne⟩ := hsm
    have hL : (streamF R ++ streamF X).length ≤ (ct - 1) * M.sz := by rw [List.length_append]; exact hfit
    have hnx : nxtF R false X ((ct - 1) * M.sz) = (R ++ X, 0) := by
      unfold nxtF
      rw [if_neg (by simp), if_neg (by omega)]
    have he := nf_app_eq hn f hL
    obtain ⟨n1, n2⟩ := nf_app hn f hL
    obtain ⟨s1, s2, s3⟩ := filA_same M fs ct (streamF R) (streamF R ++ streamF X) f.sz hL (by have := f.ok.secs; omega)
    have sA : (appF M fs (streamF R) (streamF R ++ streamF X)).2.secs.length = M.secs.length ∧ (appF M fs (streamF R) (streamF R ++ streamF X)).2.sz = M.sz := by
      unfold appF
      split
      · obtain ⟨t1, t2, _⟩ := comF_same (filA M fs (streamF R) (streamF R ++ streamF X)).2 fs (streamF R ++ streamF X).length
        exact ⟨t1.trans s1, t2.trans s2⟩
      · exact ⟨s1, s2⟩
    obtain ⟨g1, g2⟩ := app_true hg (f.flat hn) hL (by rw [← he]; exact n1)
    rw [← he] at g1 g2
    refine (append_go S SD T w jb b M fs ct (streamF R) vs X a n c h hlt hn.1 hT hR hfit hne hc).mono fun e w' ⟨q1, ⟨SD2, vs2, q2⟩, q3⟩ => ⟨0, by rw [q1, if_pos n1], ?_⟩
    unfold NfQ
    rw [hnx]
    refine ⟨rfl, (appF M fs (streamF R) (streamF R ++ streamF X)).2, ⟨_, SD2, vs2, by rw [if_pos n1, n1] at q2; rw [stream_append]; exact q2, fun k hk => hk⟩, q3, n2, sA.2, sA.1, by rw [g1.clean]; simp, by rw [flat_clean g1.clean, stream_append]; exact g1, fun s h1 h2 => ?_⟩
    rw [flat_clean g1.clean]
    exact g2 s (by rw [flat_len]; exact h1) h2
theorem do_nf (rs : Bool) (X : List (List Int)) (a : Option Addr) (n c : Nat) (h : JK S SD w jb b M fs ct (streamF R) true vs) (hlt : ∀ k, S k → k < w.heap.size) (hT : ∀ k, T k → k < w.heap.size ∧ ¬ S k) (hR : RB T w (.slice a n c) X) (hl : (streamF X).length ≤ 1000000000) (hc : M.cache.length + 65536 < 1000000) (hn : NF M) (hg : Good (flat M) fs ct (streamF R)) :
    Calls Try.prog 17 #[.pointer (some ⟨jb, 0, none⟩), .agg #[.bool rs, .slice a n c]] w fun e w' => ∃ cd, e = .returned (.int .i64 cd) ∧ NfQ S w jb b M fs ct R w' rs X cd := by
  obtain ⟨w1, hw1⟩ : ∃ w1, w1 = w.alloc (opBox rs a n c) := ⟨_, rfl⟩
  have ba : Below w.heap.size w w1 := by rw [hw1]; exact bel_alloc w _
  have hs1 := ba.size
  have h1 : JK S SD w1 jb b M fs ct (streamF R) true vs := h.keep ⟨ba.size, fun k hk hl => ba.block k hl⟩
  have hlt1 : ∀ k, S k → k < w1.heap.size := fun k hk => Nat.lt_of_lt_of_le (hlt k hk) hs1
  have hT1 : ∀ k, T k → k < w1.heap.size ∧ ¬ S k := fun k hk => ⟨Nat.lt_of_lt_of_le (hT k hk).1 hs1, (hT k hk).2⟩
  have hR1 : RB T w1 (.slice a n c) X := hR.keep ⟨ba.size, fun k hk hl => ba.block k hl⟩
  have up : ∀ {w' cd}, NfQ S w1 jb b M fs ct R w' rs X cd → NfQ S w jb b M fs ct R w' rs X cd := fun ⟨e1, M', ⟨x, y, z, j, hj⟩, k, r⟩ => ⟨e1, M', ⟨x, y, z, j, fun k hk => by
    rcases hj k hk with hk | hk
    · exact Or.inl hk
    · exact Or.inr ⟨by omega, hk.2⟩⟩, (show Kept S w w1 from ⟨ba.os, ba.tape, ba.output, ba.size, fun k hk _ => ba.block k hk⟩).trans k, r⟩
  cases rs with
  | true =>
    refine do_reset _ _ _ _ _ _ ?_
    rw [← hw1]
    exact (rst_nf S SD w1 jb b M fs ct R vs X h1 hlt1 hc hn hg).mono fun e w' ⟨cd, q1, q2⟩ => ⟨cd, q1, up q2⟩
  | false =>
    refine do_append _ _ _ _ _ _ ?_
    rw [← hw1]
    exact (app_nf S SD T w1 jb b M fs ct R vs X a n c h1 hlt1 hT1 hR1 hl hc hn hg).mono fun e w' ⟨cd, q1, q2⟩ => ⟨cd, q1, up q2⟩
end
/-- The blocks of a journal and its disk. -/
abbrev JS (jb : Nat) (vs : Value) (SD : Nat → Prop) : Nat → Prop := fun k => k = jb ∨ vs.ownBlock = some k ∨ SD k
theorem JK.min {S SD : Nat → Prop} {w : World} {jb b : Nat} {M : DM} {fs ct : Nat} {d : List Int} {wk : Bool} {vs : Value} (h : JK S SD w jb b M fs ct d wk vs) : JK (JS jb vs SD) SD w jb b M fs ct d wk vs :=
  ⟨Or.inl rfl, fun k hk => Or.inr (Or.inr hk), h.nj, h.box, h.dk, h.str, fun k hk => ⟨Or.inr (Or.inl hk), (h.si k hk).2⟩, h.reg, h.len, h.sz⟩
/-- Two journals on one disk: neither has a block of the other. -/
structure J2 (B : Nat) (T : Nat → Prop) (w : World) (j1 f1 : Nat) (R1 : List (List Int)) (j2 f2 : Nat) (R2 : List (List Int)) (b : Nat) (M : DM) (n : Nat) : Prop where
  ex : ∃ SD v1 v2, JK (JS j1 v1 SD) SD w j1 b M f1 n (streamF R1) true v1 ∧ JK (JS j2 v2 SD) SD w j2 b M f2 n (streamF R2) true v2 ∧ j1 ≠ j2 ∧ v1.ownBlock ≠ some j2 ∧ v2.ownBlock ≠ some j1 ∧ (∀ k, v1.ownBlock = some k → v2.ownBlock ≠ some k) ∧ (∀ k, JS j1 v1 SD k ∨ JS j2 v2 SD k → B ≤ k ∧ k < w.heap.size ∧ ¬ T k)
  g1 : Good (flat M) f1 n (streamF R1)
  g2 : Good (flat M) f2 n (streamF R2)
  nf : NF M
  cch : M.cache.length ≤ 10
  far : f1 + n ≤ f2 ∨ f2 + n ≤ f1
  b1 : Byt (streamF R1)
  b2 : Byt (streamF R2)
section
variable {B : Nat} {T : Nat → Prop} {w w' : World} {j1 f1 : Nat} {R1 : List (List Int)} {j2 f2 : Nat} {R2 : List (List Int)} {b : Nat} {M : DM} {n : Nat}
theorem J2.swap (h : J2 B T w j1 f1 R1 j2 f2 R2 b M n) : J2 B T w j2 f2 R2 j1 f1 R1 b M n := by
  obtain ⟨SD, v1, v2, h1, h2, h3, h4, h5, h6, h7⟩ := h.ex
  exact ⟨⟨SD, v2, v1, h2, h1, Ne.symm h3, h5, h4, fun k hk e => h6 k e hk, fun k hk => h7 k hk.symm⟩, h.g2, h.g1, h.nf, h.cch, h.far.symm, h.b2, h.b1⟩
theorem J2.bel (h : J2 B T w j1 f1 R1 j2 f2 R2 b M n) (hb : Below w.heap.size w w') : J2 B (Tn T w w') w' j1 f1 R1 j2 f2 R2 b M n := by
  obtain ⟨SD, v1, v2, h1, h2, h3, h4, h5, h6, h7⟩ := h.ex
  refine ⟨⟨SD, v1, v2, h1.keep ⟨hb.size, fun k _ hl => hb.block k hl⟩, h2.keep ⟨hb.size, fun k _ hl => hb.block k hl⟩, h3, h4, h5, h6, fun k hk => ⟨(h7 k hk).1, Nat.lt_of_lt_of_le (h7 k hk).2.1 hb.size, fun ht => ?_⟩⟩, h.g1, h.g2, h.nf, h.cch, h.far, h.b1, h.b2⟩
  rcases ht with ht | ht
  · exact (h7 k hk).2.2 ht
  · have := (h7 k hk).2.1; omega
theorem J2.bel0 (h : J2 B T w j1 f1 R1 j2 f2 R2 b M n) (hb : Below w.heap.size w w') : J2 B T w' j1 f1 R1 j2 f2 R2 b M n := by
  obtain ⟨SD, v1, v2, h1, h2, h3, h4, h5, h6, h7⟩ := h.ex
  exact ⟨⟨SD, v1, v2, h1.keep ⟨hb.size, fun k _ hl => hb.block k hl⟩, h2.keep ⟨hb.size, fun k _ hl => hb.block k hl⟩, h3, h4, h5, h6, fun k hk => ⟨(h7 k hk).1, Nat.lt_of_lt_of_le (h7 k hk).2.1 hb.size, (h7 k hk).2.2⟩⟩, h.g1, h.g2, h.nf, h.cch, h.far, h.b1, h.b2⟩
/-- An operation on the first. -/
theorem J2.op (h : J2 B T w j1 f1 R1 j2 f2 R2 b M n) (t : TR B T w) (rs : Bool) (X : List (List Int)) (a : Option Addr) (m c : Nat) (hX : RB T w (.slice a m c) X) (hb : ∀ l ∈ X, Byt l) (hl : (streamF X).length ≤ 6200) :
    Calls Try.prog 17 #[.pointer (some ⟨j1, 0, none⟩), .agg #[.bool rs, .slice a m c]] w fun e w' => ∃ cd, e = .returned (.int .i64 cd) ∧ ∃ M', J2 B T w' j1 f1 (nxtF R1 rs X ((n - 1) * M.sz)).1 j2 f2 R2 b M' n ∧ M'.sz = M.sz ∧ M'.secs.length = M.secs.length ∧ Below B w w' ∧ Keeps T w w' ∧ ∀ s, s < M.secs.length → s < f1 ∨ f1 + n ≤ s → (flat M').secs.getD s [] = (flat M).secs.getD s [] := by
  obtain ⟨SD, v1, v2, h1, h2, h3, h4, h5, h6, h7⟩ := h.ex
  have hcc := h.cch
  have hfar := h.far
  refine (do_nf (JS j1 v1 SD) SD T w j1 b M f1 n R1 v1 rs X a m c h1 (fun k hk => (h7 k (Or.inl hk)).2.1) (fun k hk => ⟨t.lt k hk, fun hs => (h7 k (Or.inl hs)).2.2 hk⟩) hX (by omega) (by omega) h.nf h.g1).mono fun e w' ⟨cd, q1, e1, M', ⟨S', SD', v1', j', hs'⟩, k', n', z', l', c', g', o'⟩ => ⟨cd, q1, M', ?_, z', l', k'.below t.hB fun k hk => (h7 k (Or.inl hk)).1, ⟨k'.size, fun k hk hl => k'.block k hl fun hs => (h7 k (Or.inl hs)).2.2 hk⟩, o'⟩
  have hsz := k'.size
  -- what is private to the second is no block of the first or its disk
  have p2 : ∀ k, (k = j2 ∨ v2.ownBlock = some k) → ¬ JS j1 v1 SD k ∧ k < w.heap.size := fun k hk => by
    rcases hk with rfl | hk
    · exact ⟨fun hs => by
        rcases hs with hs | hs | hs
        · exact h3 hs.symm
        · exact h4 hs
        · exact h2.nj hs, (h7 _ (Or.inr (Or.inl rfl))).2.1⟩
    · exact ⟨fun hs => by
        rcases hs with hs | hs | hs
        · exact h5 (by rw [hk, hs])
        · exact h6 k hs hk
        · exact (h2.si k hk).2.2 hs, (h7 _ (Or.inr (Or.inr (Or.inl hk)))).2.1⟩
  have p2' : ∀ k, (k = j2 ∨ v2.ownBlock = some k) → ¬ S' k := fun k hk hs => by
    rcases hs' k hs with h9 | h9
    · exact (p2 k hk).1 h9
    · have := (p2 k hk).2; omega
  have bl2 : ∀ k, (k = j2 ∨ v2.ownBlock = some k) → w'.heap[k]? = w.heap[k]? := fun k hk => k'.block k (p2 k hk).2 (p2 k hk).1
  have J2' : JK (JS j2 v2 SD') SD' w' j2 b M' f2 n (streamF R2) true v2 :=
    ⟨Or.inl rfl, fun k hk => Or.inr (Or.inr hk), fun hs => p2' j2 (Or.inl rfl) (j'.sd _ hs), (bl2 j2 (Or.inl rfl)).trans h2.box, j'.dk, own_same h2.str fun k hk => bl2 k (Or.inr hk), fun k hk => ⟨Or.inr (Or.inl hk), (h2.si k hk).2.1, fun hs => p2' k (Or.inr hk) (j'.sd _ hs)⟩, by rw [l']; exact h2.reg, by rw [z']; exact h2.len, by rw [z']; exact h2.sz⟩
  have in1 : ∀ k, JS j1 v1' SD' k → S' k := fun k hk => by
    rcases hk with rfl | hk | hk
    · exact j'.sj
    · exact (j'.si k hk).1
    · exact j'.sd k hk
  refine ⟨⟨SD', v1', v2, j'.min, J2', h3, fun e => p2' j2 (Or.inl rfl) (j'.si _ e).1, h5, fun k hk e => p2' k (Or.inr e) (j'.si k hk).1, fun k hk => ?_⟩, g', ⟨g'.clean, g'.on, ?_, fun i hi => ?_⟩, n', by omega, h.far, ?_, h.b2⟩
  · have hnew : S' k → B ≤ k ∧ k < w'.heap.size ∧ ¬ T k := fun hs => by
      rcases hs' k hs with h9 | h9
      · exact ⟨(h7 k (Or.inl h9)).1, Nat.lt_of_lt_of_le (h7 k (Or.inl h9)).2.1 hsz, (h7 k (Or.inl h9)).2.2⟩
      · exact ⟨by have := t.hB; omega, h9.2, fun ht => by have := t.lt k ht; omega⟩
    rcases hk with hk | hk
    · exact hnew (in1 k hk)
    · rcases hk with hk | hk | hk
      · have := h7 k (Or.inr (Or.inl hk)); exact ⟨this.1, Nat.lt_of_lt_of_le this.2.1 hsz, this.2.2⟩
      · have := h7 k (Or.inr (Or.inr (Or.inl hk))); exact ⟨this.1, Nat.lt_of_lt_of_le this.2.1 hsz, this.2.2⟩
      · exact hnew (j'.sd k hk)
  · have hr2 := h2.reg
    rw [o' f2 (by omega) (by omega)]
    exact h.g2.hd
  · have hr2 := h2.reg
    have h8 := h.g2.ar i hi
    rw [o' (f2 + 1 + i) (by omega) (by omega)]
    rw [show (flat M').sz = (flat M).sz from z']
    exact h8
  · have hRX := byt_stream hb
    unfold nxtF
    split
    · intro x hx; simp [streamF] at hx
    · split
      · exact h.b1
      · intro x hx
        rw [stream_append] at hx
        rcases List.mem_append.1 hx with h9 | h9
        · exact h.b1 x h9
        · exact hRX x h9
theorem J2.records (h : J2 B T w j1 f1 R1 j2 f2 R2 b M n) : Calls Try.prog 19 #[.pointer (some ⟨j1, 0, none⟩)] w fun e w' => ∃ x k m, e = .returned (.slice x k m) ∧ RB (Tn T w w') w' (.slice x k m) R1 ∧ Below w.heap.size w w' := by
  obtain ⟨SD, v1, v2, h1, h2, h3, h4, h5, h6, h7⟩ := h.ex
  have hrec := recs_of R1 (by have := h1.fit.bound; omega)
  refine (records_any _ SD w j1 b M f1 n (streamF R1) true v1 R1 hrec h.b1 h1).mono fun e w' ⟨x, k, m, q1, q2, q3⟩ => ⟨x, k, m, q1, ?_, q3⟩
  obtain ⟨xs, p1, p2, p3, p4⟩ := q2
  refine ⟨xs, p1, fun h0 a c d e2 => ?_, p3, fun i y l hy hl => ?_⟩
  · exact Or.inr ⟨p2 h0 a c d e2, p1.inlt h0 a c d e2⟩
  · exact (p4 i y l hy hl).lt.mono fun k hk => Or.inr hk
theorem J2.fit (h : J2 B T w j1 f1 R1 j2 f2 R2 b M n) : Fit M f1 n (streamF R1) := by
  obtain ⟨_, _, _, h1, _⟩ := h.ex
  exact h1.fit
theorem J2.read (h : J2 B T w j1 f1 R1 j2 f2 R2 b M n) (s : Nat) (hs : s < M.secs.length) : Calls Try.prog 33 #[.pointer (some ⟨b, 0, none⟩), .int .i64 s] w fun e w' => ∃ x k c, e = .returned (.tuple #[.slice x k c, .int .i64 0]) ∧ Rd w' (.slice x k c) (by8 ((flat M).secs.getD s [])) ∧ Below w.heap.size w w' := by
  obtain ⟨SD, v1, v2, h1, _⟩ := h.ex
  have hsec := h1.ok.secs
  obtain ⟨r1, r2⟩ := read_flat h.nf.1 hs
  have h9 := (IG.read (s : Int) ⟨by omega, by omega⟩ (by have := h.cch; omega) h1.dk).mono fun e w' q => q.1
  rw [r1, r2] at h9
  exact h9
end
end Go.Proofs.Ytofmijebinnejaa

/- Two journals on one disk: the marks, the openings. Bounds on sizes alone. -/
namespace Go.Proofs.Ytofmijebinnejaa
open Go.RowKit
set_option maxRecDepth 100000
set_option maxHeartbeats 3200000

def mkF (z : Nat) : List Int := (List.replicate z 0).set 0 77
theorem mkF_len (z : Nat) : (mkF z).length = z := by simp [mkF]
/-- The mark, as the law lays it. -/
theorem mark_new (w : World) (z : Nat) (hz : 1 ≤ z) (hz2 : z ≤ 1000) : ∃ W2, W2 = w.alloc (.cells ((Array.replicate z (.int .u8 0)).setIfInBounds 0 (.int .u8 77)) 5) ∧ Below w.heap.size w W2 ∧ CR (fun k => w.heap.size ≤ k ∧ k < W2.heap.size) W2 (.slice (some ⟨w.heap.size, 0, none⟩) z z) (mkF z) := by
  have e : ((Array.replicate z (Value.int .u8 0)).setIfInBounds 0 (.int .u8 77)) = (by8 (mkF z)).toArray := by
    unfold by8 mkF
    rw [List.map_set, List.map_replicate]
    apply Array.ext'
    simp
  have h2 : (w.alloc (.cells ((Array.replicate z (.int .u8 0)).setIfInBounds 0 (.int .u8 77)) 5)).heap[w.heap.size]? = some (.cells (by8 (mkF z)).toArray 5 (0, 0)) := by
    rw [heap_alloc_new w _, ← e]
  refine ⟨_, rfl, bel_alloc w _, ⟨some ⟨w.heap.size, 0, none⟩, z, by rw [by8_length, mkF_len], by rw [by8_length, mkF_len]; exact Nat.le_refl _, by omega, fun _ => ⟨_, 0, rfl, lt_of_block h2, fun i t ht => by rw [Nat.zero_add]; exact cell_blk h2 ht⟩⟩, fun _ a n c e => ?_⟩
  cases e
  exact ⟨Nat.le_refl _, lt_of_block h2⟩
theorem DR.write {B : Nat} {T : Nat → Prop} {w : World} {b : Nat} {M : DM} (h : DR B T w b M) (t : TR B T w) (s : Nat) (hs : s ≤ 100000) (hc : M.cache.length < 1000000) (bo : Option Addr) (bn bc : Nat) (l : List Int) (hin : CR T w (.slice bo bn bc) l) :
    Calls Try.prog 27 #[.pointer (some ⟨b, 0, none⟩), .int .i64 s, .slice bo bn bc] w fun e w' => e = .returned (.int .i64 (writeF M s l).1) ∧ DR B T w' b (writeF M s l).2 ∧ Below B w w' ∧ Keeps T w w' := by
  obtain ⟨SD, h1, h2⟩ := h
  exact (IG.write T (s : Int) ⟨by omega, by omega⟩ bo bn bc l hc hin (fun k hk hS => (h2 k hS).2.2 hk) h1).mono fun e w' ⟨q1, q2, q3⟩ => ⟨q1, dr_next t h2 q2 q3⟩
/-- The disk with both marks, and what its sectors hold. -/
def mk2 (n z : Nat) : DM := { newF (2 * n + 2) z with cache := [(n, mkF z), (2 * n + 1, mkF z)] }
theorem mk2_write (n z : Nat) : writeF (newF (2 * n + 2) z) (n : Nat) (mkF z) = (0, { newF (2 * n + 2) z with cache := [(n, mkF z)] }) ∧ writeF { newF (2 * n + 2) z with cache := [(n, mkF z)] } ((2 * n + 1 : Nat) : Int) (mkF z) = (0, mk2 n z) := by
  have h1 := nf_write_eq (new_nf (2 * n + 2) z) (s := n) (l := mkF z) (by rw [new_secs]; omega) (mkF_len z)
  have h2 := nf_write_eq (M := { newF (2 * n + 2) z with cache := [(n, mkF z)] }) (new_nf (2 * n + 2) z) (s := 2 * n + 1) (l := mkF z) (by show 2 * n + 1 < (newF (2 * n + 2) z).secs.length; rw [new_secs]; omega) (mkF_len z)
  exact ⟨h1, h2⟩
theorem mk2_secs (n z : Nat) : (flat (mk2 n z)).secs.getD n [] = mkF z ∧ (flat (mk2 n z)).secs.getD (2 * n + 1) [] = mkF z ∧ ∀ s, s < 2 * n + 2 → s ≠ n → s ≠ 2 * n + 1 → (flat (mk2 n z)).secs.getD s [] = List.replicate z 0 := by
  have e : (flat (mk2 n z)).secs = ((List.replicate (2 * n + 2) (List.replicate z 0)).set n (mkF z)).set (2 * n + 1) (mkF z) := rfl
  rw [e]
  refine ⟨?_, ?_, fun s h1 h2 h3 => ?_⟩
  · rw [getD_ne (by omega), getD_set (by simp; omega)]
  · rw [getD_set (by simp)]
  · rw [getD_ne (Ne.symm h3), getD_ne (Ne.symm h2)]
    simp [List.getD_eq_getElem?_getD, h1]
/-- One journal of two. -/
def J1 (B : Nat) (T : Nat → Prop) (w : World) (j1 f1 b : Nat) (M : DM) (n : Nat) : Prop := ∃ SD v1, JK (JS j1 v1 SD) SD w j1 b M f1 n (streamF []) true v1 ∧ ∀ k, JS j1 v1 SD k → B ≤ k ∧ k < w.heap.size ∧ ¬ T k
section
variable {B : Nat} {T : Nat → Prop} {w : World} {b : Nat} {M : DM} {n : Nat}
theorem DR.first (h : DR B T w b M) (t : TR B T w) (f1 : Nat) (hreg : f1 + n ≤ M.secs.length ∧ 2 ≤ n) (hz : 16 ≤ M.sz) (hn : NF M) (hc : M.cache.length ≤ 10) (h0 : ∀ s, f1 ≤ s → s < f1 + n → (flat M).secs.getD s [] = List.replicate M.sz 0) :
    Calls Try.prog 15 #[.pointer (some ⟨b, 0, none⟩), .int .i64 f1, .int .i64 n] w fun e w' => ∃ j1, e = .returned (.tuple #[.pointer (some ⟨j1, 0, none⟩), .int .i64 0]) ∧ J1 B T w' j1 f1 b M n ∧ Below w.heap.size w w' := by
  obtain ⟨SD, h1, h2⟩ := h
  obtain ⟨z1, z2, z3⟩ := zero_region (IG.ok h1) hn.1 hreg h0 hn
  refine (open_yes SD w b M f1 n h1 (fun k hk => (h2 k hk).2.1) hreg hn.1 hz z1 (by omega) [] z2).mono fun e w' ⟨jb, vs, q1, q2, q3⟩ => ⟨jb, q1, ⟨SD, vs, q2.min, fun k hk => ?_⟩, q3⟩
  have hsz := q3.size
  have hB := t.hB
  have hin : Nw SD w w' k := by
    rcases hk with rfl | hk | hk
    · exact q2.sj
    · exact (q2.si k hk).1
    · exact q2.sd k hk
  rcases hin with hk | hk
  · exact ⟨(h2 k hk).1, Nat.lt_of_lt_of_le (h2 k hk).2.1 hsz, (h2 k hk).2.2⟩
  · exact ⟨by omega, hk.2, fun ht => by have := t.lt k ht; omega⟩
theorem J1.second {j1 f1 : Nat} (h : J1 B T w j1 f1 b M n) (t : TR B T w) (f2 : Nat) (hreg1 : f1 + n ≤ M.secs.length ∧ 2 ≤ n) (hreg : f2 + n ≤ M.secs.length ∧ 2 ≤ n) (hz : 16 ≤ M.sz) (hn : NF M) (hc : M.cache.length ≤ 10) (hfar : f1 + n ≤ f2 ∨ f2 + n ≤ f1) (h01 : ∀ s, f1 ≤ s → s < f1 + n → (flat M).secs.getD s [] = List.replicate M.sz 0) (h0 : ∀ s, f2 ≤ s → s < f2 + n → (flat M).secs.getD s [] = List.replicate M.sz 0) :
    Calls Try.prog 15 #[.pointer (some ⟨b, 0, none⟩), .int .i64 f2, .int .i64 n] w fun e w' => ∃ j2, e = .returned (.tuple #[.pointer (some ⟨j2, 0, none⟩), .int .i64 0]) ∧ J2 B T w' j1 f1 [] j2 f2 [] b M n ∧ Below w.heap.size w w' := by
  obtain ⟨SD, v1, h1, h2⟩ := h
  obtain ⟨z1, z2, z3⟩ := zero_region h1.ok hn.1 hreg h0 hn
  obtain ⟨y1, y2, y3⟩ := zero_region h1.ok hn.1 hreg1 h01 hn
  refine (open_yes SD w b M f2 n h1.dk (fun k hk => (h2 k (Or.inr (Or.inr hk))).2.1) hreg hn.1 hz z1 (by omega) [] z2).mono fun e w' ⟨j2, v2, q1, q2, q3⟩ => ⟨j2, q1, ?_, q3⟩
  have hsz := q3.size
  have hB := t.hB
  have nw : ∀ k, (k = j2 ∨ v2.ownBlock = some k) → w.heap.size ≤ k ∧ k < w'.heap.size := fun k hk => by
    have hin : Nw SD w w' k ∧ ¬ SD k := by
      rcases hk with rfl | hk
      · exact ⟨q2.sj, q2.nj⟩
      · exact ⟨(q2.si k hk).1, (q2.si k hk).2.2⟩
    rcases hin.1 with h9 | h9
    · exact absurd h9 hin.2
    · exact h9
  have old : ∀ k, JS j1 v1 SD k → k < w.heap.size := fun k hk => (h2 k hk).2.1
  refine ⟨⟨SD, v1, v2, h1.keep ⟨q3.size, fun k _ hl => q3.block k hl⟩, q2.min, fun e => ?_, fun e => ?_, fun e => ?_, fun k hk e => ?_, fun k hk => ?_⟩, y3, z3, hn, hc, hfar, fun x hx => by simp [streamF] at hx, fun x hx => by simp [streamF] at hx⟩
  · have h8 := nw j2 (Or.inl rfl)
    have h9 := old j1 (Or.inl rfl)
    omega
  · have h8 := nw j2 (Or.inl rfl)
    have h9 := old j2 (Or.inr (Or.inl e))
    omega
  · have h8 := nw j1 (Or.inr e)
    have h9 := old j1 (Or.inl rfl)
    omega
  · have h8 := nw k (Or.inr e)
    have h9 := old k (Or.inr (Or.inl hk))
    omega
  · rcases hk with hk | hk
    · have := h2 k hk; exact ⟨this.1, Nat.lt_of_lt_of_le this.2.1 hsz, this.2.2⟩
    · have hnew : (k = j2 ∨ v2.ownBlock = some k) → B ≤ k ∧ k < w'.heap.size ∧ ¬ T k := fun h9 => by
        have h8 := nw k h9
        exact ⟨by omega, h8.2, fun ht => by have := t.lt k ht; omega⟩
      rcases hk with hk | hk | hk
      · exact hnew (Or.inl hk)
      · exact hnew (Or.inr hk)
      · have := h2 k (Or.inr (Or.inr hk)); exact ⟨this.1, Nat.lt_of_lt_of_le this.2.1 hsz, this.2.2⟩
end
end Go.Proofs.Ytofmijebinnejaa

/- The law Apart. Bounds on sizes alone. -/
namespace Go.Proofs.Ytofmijebinnejaa
open Go.RowKit
set_option maxRecDepth 100000
set_option maxHeartbeats 12800000

theorem CR.tn {T : Nat → Prop} {w w' : World} {v : Value} {l : List Int} (h : CR T w v l) (hb : Below w.heap.size w w') : CR (Tn T w w') w' v l := (h.keep ⟨hb.size, fun k _ hl => hb.block k hl⟩).mono fun k hk => Or.inl hk
theorem CR.bel {T : Nat → Prop} {w w' : World} {v : Value} {l : List Int} (h : CR T w v l) (hb : Below w.heap.size w w') : CR T w' v l := h.keep ⟨hb.size, fun k _ hl => hb.block k hl⟩
theorem cr_rd {T : Nat → Prop} {w : World} {v : Value} {l : List Int} (h : CR T w v l) : Rd w v (by8 l) := h.1
theorem Rd.bel {w w' : World} {v : Value} {l : List Value} (h : Rd w v l) (hb : Below w.heap.size w w') : Rd w' v l := h.at hb
/-- What the law keeps of the disk. -/
def MkQ (M : DM) (n z : Nat) : Prop := M.sz = z ∧ M.secs.length = 2 * n + 2 ∧ (flat M).secs.getD n [] = mkF z ∧ (flat M).secs.getD (2 * n + 1) [] = mkF z
theorem MkQ.next {M M' : DM} {n z f : Nat} (h : MkQ M n z) (hf : f = 0 ∨ f = n + 1) (e1 : M'.sz = M.sz) (e2 : M'.secs.length = M.secs.length) (ho : ∀ s, s < M.secs.length → s < f ∨ f + n ≤ s → (flat M').secs.getD s [] = (flat M).secs.getD s []) : MkQ M' n z := by
  obtain ⟨h1, h2, h3, h4⟩ := h
  exact ⟨e1.trans h1, e2.trans h2, (ho n (by omega) (by omega)).trans h3, (ho (2 * n + 1) (by omega) (by omega)).trans h4⟩
theorem apart_law (x y : Int) (a : Option Addr) (len cap : Nat) (l : List JX) (a3 : Option Addr) (len3 cap3 : Nat) (l3 : List JX) (w : World) (w0 : (Lit.int .u8 x).wf = true) (w1 : (Lit.int .u8 y).wf = true) (w2 : JsIn w.heap.size w a len cap l) (w3 : JsIn w.heap.size w a3 len3 cap3 l3) :
    Calls Try.prog 10 #[.int .u8 x, .int .u8 y, .slice a len cap, .slice a3 len3 cap3] w (BoP true w) := by
  obtain ⟨x, rfl, hx⟩ := lw_num w0
  obtain ⟨y, rfl, hy⟩ := lw_num w1
  clear w0 w1
  obtain ⟨fb, hfb, CF⟩ := few_any w.heap.size a len cap l w w2
  obtain ⟨fb2, hfb2, CF2⟩ := few_any w.heap.size a3 len3 cap3 l3 w w3
  have HCF := hid_of CF
  have HCF2 := hid_of CF2
  have AW := hid_of (fun w => awake_any w)
  by_cases hfa : fb = false ∨ fb2 = false
  · clear CF CF2 w2 w3 hfb hfb2
    cases fb
    case' true => obtain rfl : fb2 = false := by (rcases hfa with h | h; (cases h); exact h)
    all_goals go_enter Try.func10, Try.ntmps10
    all_goals go_wp2_with (first
      | (go_at_call 11; ((with_reducible refine (HCF.out).mono ?_); (rintro e w1 ⟨rfl, rfl⟩)))
      | (go_at_call 11; ((with_reducible refine (HCF2.out).mono ?_); (rintro e w1 ⟨rfl, rfl⟩)))
      | (go_at_call 12; ((with_reducible refine (AW.out _).mono ?_); (rintro e w2 ⟨rfl, h1⟩)); (have E2 := hid_of h1); clear h1))
    all_goals go_ret
    all_goals exact ⟨rfl, E2.out⟩
  obtain rfl : fb = true := by cases fb; exact absurd (Or.inl rfl) hfa; rfl
  obtain rfl : fb2 = true := by cases fb2; exact absurd (Or.inr rfl) hfa; rfl
  clear hfa
  have hF := hfb rfl
  have hF2 := hfb2 rfl
  have CSH := hid_of (fun X => shape_any x y hx hy X)
  obtain ⟨n, hn⟩ : ∃ n, n = 2 + x % 6 := ⟨_, rfl⟩
  obtain ⟨z, hz⟩ : ∃ z, z = 16 + y % 40 := ⟨_, rfl⟩
  rw [← hn, ← hz] at CSH
  have hn2 : 2 ≤ n ∧ n ≤ 7 := by omega
  have hz2 : 16 ≤ z ∧ z ≤ 55 := by omega
  obtain ⟨p, hp⟩ : ∃ p, p = n - 1 := ⟨_, rfl⟩
  obtain ⟨ar, har⟩ : ∃ ar, ar = p * z := ⟨_, rfl⟩
  have har2 : ar ≤ 6 * 55 := by rw [har]; exact Nat.mul_le_mul (by omega) hz2.2
  have s1 : IntKind.i64.wrap ((n : Int) - 1) = (p : Int) := by rw [show (n : Int) - 1 = (p : Int) by omega]; exact IntWalk.i64_in _ (by omega)
  have s2 : IntKind.i64.wrap ((p : Int) * (z : Int)) = (ar : Int) := by rw [← Int.natCast_mul, ← har]; exact IntWalk.i64_in _ (by omega)
  have HAR : Hid ((n - 1) * z = ar) := hid_of (by rw [har, hp])
  obtain ⟨nN, hnN⟩ : ∃ k, k = 2 * n + 2 := ⟨_, rfl⟩
  have CN := hid_of (fun X => dr_new (2 * n + 2) z (by omega) (by omega) hz2.1 (by omega) X)
  obtain ⟨B, hB⟩ : ∃ B, B = w.heap.size := ⟨_, rfl⟩
  have HIN := hid_of (fun (X : World) (h : Below B w X) => (show JsIn B X a len cap l by rw [hB] at h ⊢; exact w2.at h))
  have HLL := hid_of w2.1
  have hcap := w2.2.1.cut.2
  have CN2 := hid_of (show Calls Try.prog 14 #[.int .i64 nN, .int .i64 z] w fun e w' => ∃ b, e = .returned (.tuple #[.pointer (some ⟨b, 0, none⟩), .int .i64 0]) ∧ DR B (fun k => k < B) w' b (newF (2 * n + 2) z) ∧ Below B w w' from by rw [hB, hnN]; exact CN.out w)
  have TN := hid_of (fun (X : World) (h : Below B w X) => show TR B (fun k => k < B) X from by have h9 := tr_new (w := w) (w' := X) (by have := h.size; omega); rwa [← hB] at h9)
  have CO := hid_of (fun (X : World) (b : Nat) (h : DR B (fun k => k < B) X b (newF n z)) (t : TR B (fun k => k < B) X) => lw_open n z hn2.1 hz2.1 h t)
  have HFM := hid_of (fun (x : JX) (hx : x ∈ l) => few_stream hF hx)
  have S0 : Hid (NF (newF n z) ∧ (newF n z).sz = z) := hid_of ⟨new_nf n z, rfl⟩
  have len9 : len ≤ 9223372036854775807 := by omega
  have HIN2 := hid_of (fun (X : World) (h : Below B w X) => (show JsIn B X a3 len3 cap3 l3 by rw [hB] at h ⊢; exact w3.at h))
  have HFM2 := hid_of (fun (x : JX) (hx : x ∈ l3) => few_stream hF2 hx)
  have hcap3 := w3.2.1.cut.2
  have len93 : len3 ≤ 9223372036854775807 := by omega
  obtain ⟨n2, hn22⟩ : ∃ k, k = 2 * n := ⟨_, rfl⟩
  obtain ⟨n3, hn3⟩ : ∃ k, k = 2 * n + 1 := ⟨_, rfl⟩
  obtain ⟨m1, hm1⟩ : ∃ k, k = n + 1 := ⟨_, rfl⟩
  have t1 : IntKind.i64.wrap (2 * (n : Int)) = (n2 : Int) := by rw [show 2 * (n : Int) = (n2 : Int) by omega]; exact IntWalk.i64_in _ (by omega)
  have t2 : IntKind.i64.wrap ((n2 : Int) + 2) = (nN : Int) := by rw [show (n2 : Int) + 2 = (nN : Int) by omega]; exact IntWalk.i64_in _ (by omega)
  have t3 : IntKind.i64.wrap ((n2 : Int) + 1) = (n3 : Int) := by rw [show (n2 : Int) + 1 = (n3 : Int) by omega]; exact IntWalk.i64_in _ (by omega)
  have t4 : IntKind.i64.wrap ((n : Int) + 1) = (m1 : Int) := by rw [show (n : Int) + 1 = (m1 : Int) by omega]; exact IntWalk.i64_in _ (by omega)
  have MK := hid_of (fun (X : World) => mark_new X z (by omega) (by omega))
  have MKR := fun (X : World) => (show (Instr.makeSlice 46 (.int .i64 z) (.int .i64 z)).run Try.prog X = .ok (.slice (some ⟨X.heap.size, 0, none⟩) z z) (X.alloc (.cells (Array.replicate z (.int .u8 0)) 5)) from by
    have h := run_make_row' (P := Try.prog) 46 5 (.int .u8 0) 1 u8E.und u8E.info rfl .i64 .i64 z (by omega) (by omega) X
    rw [show madeCells #[Value.int .u8 0] z = Array.replicate z (.int .u8 0) by rw [← Array.toList_inj]; simp [toList_madeCells_one]] at h
    exact h)
  obtain ⟨k1, k2⟩ := mk2_write n z
  obtain ⟨s01, s02, s03⟩ := mk2_secs n z
  have CW1 := hid_of (fun (T : Nat → Prop) (X : World) (b : Nat) (bo : Option Addr) (bn bc : Nat) (h : DR B T X b (newF (2 * n + 2) z)) (t : TR B T X) (hin : CR T X (.slice bo bn bc) (mkF z)) => show Calls Try.prog 27 #[.pointer (some ⟨b, 0, none⟩), .int .i64 n, .slice bo bn bc] X (fun e w' => e = .returned (.int .i64 0) ∧ DR B T w' b { newF (2 * n + 2) z with cache := [(n, mkF z)] } ∧ Below B X w' ∧ Keeps T X w') from by
    have h9 := h.write t n (by omega) (by show 0 < _; omega) bo bn bc (mkF z) hin
    rw [k1] at h9
    exact h9)
  have CW2 := hid_of (fun (T : Nat → Prop) (X : World) (b : Nat) (bo : Option Addr) (bn bc : Nat) (h : DR B T X b { newF (2 * n + 2) z with cache := [(n, mkF z)] }) (t : TR B T X) (hin : CR T X (.slice bo bn bc) (mkF z)) => show Calls Try.prog 27 #[.pointer (some ⟨b, 0, none⟩), .int .i64 n3, .slice bo bn bc] X (fun e w' => e = .returned (.int .i64 0) ∧ DR B T w' b (mk2 n z) ∧ Below B X w' ∧ Keeps T X w') from by
    have h9 := h.write t (2 * n + 1) (by omega) (by show 1 < _; omega) bo bn bc (mkF z) hin
    rw [k2, ← hn3] at h9
    exact h9)
  have hml : (mk2 n z).secs.length = 2 * n + 2 := new_secs _ _
  have CO1 := hid_of (fun (T : Nat → Prop) (X : World) (b : Nat) (h : DR B T X b (mk2 n z)) (t : TR B T X) => show Calls Try.prog 15 #[.pointer (some ⟨b, 0, none⟩), .int .i64 0, .int .i64 n] X (fun e w' => ∃ j1, e = .returned (.tuple #[.pointer (some ⟨j1, 0, none⟩), .int .i64 0]) ∧ J1 B T w' j1 0 b (mk2 n z) n ∧ Below X.heap.size X w') from h.first t 0 ⟨by omega, by omega⟩ hz2.1 ⟨rfl, rfl⟩ (by show 2 ≤ _; omega) (fun s h1 h2 => s03 s (by omega) (by omega) (by omega)))
  have CO2 := hid_of (fun (T : Nat → Prop) (X : World) (b j1 : Nat) (h : J1 B T X j1 0 b (mk2 n z) n) (t : TR B T X) => show Calls Try.prog 15 #[.pointer (some ⟨b, 0, none⟩), .int .i64 m1, .int .i64 n] X (fun e w' => ∃ j2, e = .returned (.tuple #[.pointer (some ⟨j2, 0, none⟩), .int .i64 0]) ∧ J2 B T w' j1 0 [] j2 m1 [] b (mk2 n z) n ∧ Below X.heap.size X w') from h.second t m1 ⟨by omega, by omega⟩ ⟨by omega, by omega⟩ hz2.1 ⟨rfl, rfl⟩ (by show 2 ≤ _; omega) (by omega) (fun s h1 h2 => s03 s (by omega) (by omega) (by omega)) (fun s h1 h2 => s03 s (by omega) (by omega) (by omega)))
  have M0 : Hid (MkQ (mk2 n z) n z) := hid_of ⟨rfl, hml, s01, s02⟩
  have COPA := hid_of (fun (T : Nat → Prop) (X : World) (j1 j2 b : Nat) (M : DM) (Ra Rb Xs : List (List Int)) (rs : Bool) (a2 : Option Addr) (n2 c2 : Nat) (h : J2 B T X j1 0 Ra j2 m1 Rb b M n) (t : TR B T X) (hm : MkQ M n z) (hX : RB T X (.slice a2 n2 c2) Xs) (hb : ∀ r ∈ Xs, Byt r) (hl : (streamF Xs).length ≤ 6200) => show Calls Try.prog 17 #[.pointer (some ⟨j1, 0, none⟩), .agg #[.bool rs, .slice a2 n2 c2]] X (fun e w' => ∃ cd, e = .returned (.int .i64 cd) ∧ ∃ M', J2 B T w' j1 0 (nxtF Ra rs Xs ar).1 j2 m1 Rb b M' n ∧ MkQ M' n z ∧ Below B X w' ∧ Keeps T X w') from by
    refine (h.op t rs Xs a2 n2 c2 hX hb hl).mono fun e w' ⟨cd, q1, M', q2, q3, q4, q5, q6, q7⟩ => ⟨cd, q1, M', ?_, hm.next (Or.inl rfl) q3 q4 q7, q5, q6⟩
    rw [hm.1, HAR.out] at q2
    exact q2)
  have COPB := hid_of (fun (T : Nat → Prop) (X : World) (j1 j2 b : Nat) (M : DM) (Ra Rb Xs : List (List Int)) (rs : Bool) (a2 : Option Addr) (n2 c2 : Nat) (h : J2 B T X j1 0 Ra j2 m1 Rb b M n) (t : TR B T X) (hm : MkQ M n z) (hX : RB T X (.slice a2 n2 c2) Xs) (hb : ∀ r ∈ Xs, Byt r) (hl : (streamF Xs).length ≤ 6200) => show Calls Try.prog 17 #[.pointer (some ⟨j2, 0, none⟩), .agg #[.bool rs, .slice a2 n2 c2]] X (fun e w' => ∃ cd, e = .returned (.int .i64 cd) ∧ ∃ M', J2 B T w' j1 0 Ra j2 m1 (nxtF Rb rs Xs ar).1 b M' n ∧ MkQ M' n z ∧ Below B X w' ∧ Keeps T X w') from by
    refine (h.swap.op t rs Xs a2 n2 c2 hX hb hl).mono fun e w' ⟨cd, q1, M', q2, q3, q4, q5, q6, q7⟩ => ⟨cd, q1, M', ?_, hm.next (Or.inr hm1) q3 q4 q7, q5, q6⟩
    rw [hm.1, HAR.out] at q2
    exact q2.swap)
  have CAF := hid_of (fun (T : Nat → Prop) (X : World) (R Xs : List (List Int)) (rs : Bool) (a1 : Option Addr) (n1 c1 : Nat) (a2 : Option Addr) (n2 c2 : Nat) (h1 : RB T X (.slice a1 n1 c1) R) (h2 : RB T X (.slice a2 n2 c2) Xs) (t : TR B T X) (hl : (streamF R).length ≤ ar) (hl2 : (streamF Xs).length ≤ 6200) => lw_after R Xs rs a1 n1 c1 a2 n2 c2 ar h1 h2 t (by omega) hl2 (by omega))
  have CRA := hid_of (fun (T : Nat → Prop) (X : World) (j1 j2 b : Nat) (M : DM) (Ra Rb : List (List Int)) (h : J2 B T X j1 0 Ra j2 m1 Rb b M n) => h.records)
  have CRB := hid_of (fun (T : Nat → Prop) (X : World) (j1 j2 b : Nat) (M : DM) (Ra Rb : List (List Int)) (h : J2 B T X j1 0 Ra j2 m1 Rb b M n) => h.swap.records)
  have CRD1 := hid_of (fun (T : Nat → Prop) (X : World) (j1 j2 b : Nat) (M : DM) (Ra Rb : List (List Int)) (h : J2 B T X j1 0 Ra j2 m1 Rb b M n) (hm : MkQ M n z) => show Calls Try.prog 33 #[.pointer (some ⟨b, 0, none⟩), .int .i64 n] X (fun e w' => ∃ x k c, e = .returned (.tuple #[.slice x k c, .int .i64 0]) ∧ Rd w' (.slice x k c) (by8 (mkF z)) ∧ Below X.heap.size X w') from by
    have h9 := h.read n (by rw [hm.2.1]; omega)
    rw [hm.2.2.1] at h9
    exact h9)
  have CRD2 := hid_of (fun (T : Nat → Prop) (X : World) (j1 j2 b : Nat) (M : DM) (Ra Rb : List (List Int)) (h : J2 B T X j1 0 Ra j2 m1 Rb b M n) (hm : MkQ M n z) => show Calls Try.prog 33 #[.pointer (some ⟨b, 0, none⟩), .int .i64 n3] X (fun e w' => ∃ x k c, e = .returned (.tuple #[.slice x k c, .int .i64 0]) ∧ Rd w' (.slice x k c) (by8 (mkF z)) ∧ Below X.heap.size X w') from by
    have h9 := h.read (2 * n + 1) (by rw [hm.2.1]; omega)
    rw [hm.2.2.2, ← hn3] at h9
    exact h9)
  have CSM := hid_of (fun (S1 S2 : Nat → Prop) (R : List (List Int)) (a1 : Option Addr) (n1 c1 : Nat) (a2 : Option Addr) (n2 c2 : Nat) (X : World) (h1 : RB S1 X (.slice a1 n1 c1) R) (h2 : RB S2 X (.slice a2 n2 c2) R) => show Calls Try.prog 18 #[.slice a1 n1 c1, .slice a2 n2 c2] X (fun e w' => e = .returned (.bool true) ∧ Below X.heap.size X w') from (same_any S1 S2 R R a1 n1 c1 a2 n2 c2 X h1 h2).mono fun e w' ⟨x, q1, q2, q3⟩ => ⟨by rw [q1, q2 rfl], q3⟩)
  have HNX := hid_of (fun (R : List (List Int)) (rs : Bool) (Xs : List (List Int)) (h : (streamF R).length ≤ ar) => nxt_len R rs Xs ar h)
  obtain ⟨sm, hsm⟩ : ∃ s, s = strOfNums (mkF z) := ⟨_, rfl⟩
  have CV := hid_of (fun (X : World) (x : Option Addr) (k c : Nat) (h : Rd X (.slice x k c) (by8 (mkF z))) => show (convert 46 9 (.slice x k c)).run Try.prog X = .ok (.string sm) X from by rw [hsm]; exact conv_by8 h)
  have hss : (sm.toList == sm.toList) = true := beq_self_eq_true _
  have z1 : (0 : Int) < (z : Int) := by omega
  have z0 : 0 < z := by omega
  rw [show BoP true w = fun e w' => e = .returned (.bool true) ∧ Below B w w' from by rw [hB]; rfl]
  clear CF w2 hF hfb hn hz hp har hB hcap CN CF2 w3 hfb2 hF2 hn22 hn3 hm1 hnN k1 k2 s01 s02 s03 hml hsm hcap3 S0 CO
  go_enter Try.func10, Try.ntmps10
  go_wp2_with (first
    | (go_at_call 11; ((with_reducible refine (HCF.out).mono ?_); (rintro e w1 ⟨rfl, rfl⟩)))
    | (go_at_call 11; ((with_reducible refine (HCF2.out).mono ?_); (rintro e w1 ⟨rfl, rfl⟩)))
    | (go_at_call 13; ((with_reducible refine (CSH.out _).mono ?_); (rintro e w1 ⟨rfl, rfl⟩)))
    | (go_at_call 14; ((with_reducible refine (CN2.out).mono ?_); (rintro e w1 ⟨b, rfl, q1, q2⟩)); have D1 := hid_of q1; have B1 := hid_of q2; have T1 := hid_of (TN.out w1 q2); clear q1 q2; obtain ⟨WB, hWB, bm, km⟩ := MK.out w1; have DM2 := hid_of (D1.out.bel bm); have TM2 := hid_of (T1.out.next bm.size); have KM2 := hid_of (km.mono (T := Tn (fun k => k < B) w1 WB) fun k hk => Or.inr hk); have BM2 := hid_of (B1.out.trans (bm.mono T1.out.hB)); clear bm km)
    | (go_at_call 27; rw [← hWB]; ((with_reducible refine (CW1.out _ WB b _ _ _ DM2.out TM2.out KM2.out).mono ?_); (rintro e w3 ⟨rfl, q1, q2, q3⟩)); have D3 := hid_of q1; have B3 := hid_of (BM2.out.trans q2); have T3 := hid_of (TM2.out.same q3.1); have K3 := hid_of (KM2.out.keep q3); clear q1 q2 q3)
    | (go_at_call 27; ((with_reducible refine (CW2.out _ w3 b _ _ _ D3.out T3.out K3.out).mono ?_); (rintro e w4 ⟨rfl, q1, q2, q3⟩)); have D4 := hid_of q1; have B4 := hid_of (B3.out.trans q2); have T4 := hid_of (T3.out.same q3.1); have K4 := hid_of (K3.out.keep q3); clear q1 q2 q3)
    | (go_at_call 15; ((with_reducible refine (CO1.out _ w4 b D4.out T4.out).mono ?_); (rintro e w5 ⟨ja, rfl, q1, q2⟩)); have J5 := hid_of q1; have B5 := hid_of (B4.out.trans (q2.mono T4.out.hB)); have T5 := hid_of (T4.out.same q2.size); have K5 := hid_of (K4.out.keep ⟨q2.size, fun k _ hl => q2.block k hl⟩); clear q1 q2)
    | (go_at_call 15; ((with_reducible refine (CO2.out _ w5 b ja J5.out T5.out).mono ?_); (rintro e w6 ⟨jb, rfl, q1, q2⟩)); have J6 := hid_of q1; have B6 := hid_of (B5.out.trans (q2.mono T5.out.hB)); have T6 := hid_of (T5.out.same q2.size); have K6 := hid_of (K5.out.keep ⟨q2.size, fun k _ hl => q2.block k hl⟩); clear q1 q2))
  obtain ⟨gm, hgm⟩ : ∃ gm, gm = w1.heap.size := ⟨_, rfl⟩
  rw [← hgm] at K6 ⊢
  clear hgm
  go_loopw [18, 19, 20] (fun xv yv iv wr => ∃ (i : Nat) (Ra Rb : List (List Int)) (M : DM) (T : Nat → Prop) (xo : Option Addr) (xon xoc : Nat) (yo : Option Addr) (yon yoc : Nat), (i ≤ len ∨ i ≤ len3) ∧ iv = .int .i64 i ∧ xv = .slice xo xon xoc ∧ yv = .slice yo yon yoc ∧ Hid (J2 B T wr ja 0 Ra jb m1 Rb b M n) ∧ Hid (TR B T wr) ∧ Hid (MkQ M n z) ∧ Hid (RB T wr (.slice xo xon xoc) Ra) ∧ Hid (RB T wr (.slice yo yon yoc) Rb) ∧ Hid (CR T wr (.slice (some ⟨gm, 0, none⟩) z z) (mkF z)) ∧ Hid ((streamF Ra).length ≤ ar) ∧ Hid ((streamF Rb).length ≤ ar) ∧ Hid (Below B w wr)) (fun _ _ iv _ => (len + len3) - (intOf iv).toNat)
  case atStart =>
    have b7 := bel_alloc w6 (.cells #[] 46)
    have b8 := bel_alloc (w6.alloc (.cells #[] 46)) (.cells #[] 46)
    have b9 := b7.trans (b8.mono b7.size)
    exact ⟨0, [], [], mk2 n z, _, _, 0, 0, _, 0, 0, Or.inl (Nat.zero_le _), rfl, rfl, rfl, hid_of (J6.out.bel0 b9), hid_of (T6.out.same b9.size), M0, hid_of (rb_nil _ _ _ 0 (by omega)), hid_of (rb_nil _ _ _ 0 (by omega)), hid_of (K6.out.keep ⟨b9.size, fun k _ hl => b9.block k hl⟩), hid_of (by simp [streamF]), hid_of (by simp [streamF]), hid_of (B6.out.trans (b9.mono T6.out.hB))⟩
  case round =>
    obtain ⟨i, Ra, Rb, M, T, xo, xon, xoc, yo, yon, yoc, hi, rfl, rfl, rfl, hJ, hT, hM, hX, hY, hK, hRa, hRb, hb⟩ := hrel
    have ilt : (i : Int) ≤ 9223372036854775806 ∨ True := Or.inr trivial
    rcases (show (i < len ∧ i < len3) ∨ (i < len ∧ ¬ i < len3) ∨ (¬ i < len ∧ i < len3) ∨ (¬ i < len ∧ ¬ i < len3) from by omega) with ⟨hlta, hltb⟩ | ⟨hlta, hltb⟩ | ⟨hlta, hltb⟩ | ⟨hlta, hltb⟩
    all_goals clear ilt
    · skip
      have da : decide (i < len) = true := decide_eq_true hlta
      have ia : (i : Int) < (len : Int) := by omega
      have db : decide (i < len3) = true := decide_eq_true hltb
      have ib : (i : Int) < (len3 : Int) := by omega
      obtain ⟨ga, oa, xa, xba, xna, xca, hxa, rfl, hva, c0a, c1a, hoka, hxna, hc1a, hc2a⟩ := (HIN.out wr hb.out).get hlta
      have HXBa := hid_of hoka.2
      have HFXa := hid_of (HFM.out xa (List.mem_of_getElem? hxa))
      have HLTa := hid_of hlta
      have HXRa := hid_of (fun (T : Nat → Prop) (X : World) (h : Below B w X) (t : TR B T X) => show RB T X (.slice xba xna xca) xa.xs from by
        obtain ⟨g', o', x', xb', xn', xc', hx', e', hv', c0', c1', hok', _⟩ := (HIN.out X h).get hlta
        rw [hxa] at hx'
        cases hx'
        exact JX.t hok' hva t)
      have HCLa := hid_of (fun (X : World) (hX : Below B w X) => show X.cell? ⟨ga, oa + i * 2, none⟩ = some (.bool xa.rs) ∧ X.cell? ⟨ga, oa + i * 2 + 1, none⟩ = some (.slice xba xna xca) from by
        obtain ⟨g', o', x', xb', xn', xc', hx', e', hv', c0', c1', _⟩ := (HIN.out X hX).get hlta
        simp only [Option.some.injEq, Addr.mk.injEq] at e'
        obtain ⟨rfl, rfl, _⟩ := e'
        rw [hxa] at hx'
        cases hx'
        rw [hva] at hv'
        cases hv'
        exact ⟨c0', c1'⟩)
      have xn9a : xna ≤ 9223372036854775807 := by have := (HXRa.out T wr hb.out hT.out).len.2; omega
      obtain ⟨rsa, hrsa⟩ : ∃ rs, rs = xa.rs := ⟨_, rfl⟩
      rw [← hrsa] at c0a HCLa
      clear hoka hxna hrsa hxa hva
      obtain ⟨gb, ob, xb, xbb, xnb, xcb, hxb, rfl, hvb, c0b, c1b, hokb, hxnb, hc1b, hc2b⟩ := (HIN2.out wr hb.out).get hltb
      have HXBb := hid_of hokb.2
      have HFXb := hid_of (HFM2.out xb (List.mem_of_getElem? hxb))
      have HLTb := hid_of hltb
      have HXRb := hid_of (fun (T : Nat → Prop) (X : World) (h : Below B w X) (t : TR B T X) => show RB T X (.slice xbb xnb xcb) xb.xs from by
        obtain ⟨g', o', x', xb', xn', xc', hx', e', hv', c0', c1', hok', _⟩ := (HIN2.out X h).get hltb
        rw [hxb] at hx'
        cases hx'
        exact JX.t hok' hvb t)
      have HCLb := hid_of (fun (X : World) (hX : Below B w X) => show X.cell? ⟨gb, ob + i * 2, none⟩ = some (.bool xb.rs) ∧ X.cell? ⟨gb, ob + i * 2 + 1, none⟩ = some (.slice xbb xnb xcb) from by
        obtain ⟨g', o', x', xb', xn', xc', hx', e', hv', c0', c1', _⟩ := (HIN2.out X hX).get hltb
        simp only [Option.some.injEq, Addr.mk.injEq] at e'
        obtain ⟨rfl, rfl, _⟩ := e'
        rw [hxb] at hx'
        cases hx'
        rw [hvb] at hv'
        cases hv'
        exact ⟨c0', c1'⟩)
      have xn9b : xnb ≤ 9223372036854775807 := by have := (HXRb.out T wr hb.out hT.out).len.2; omega
      obtain ⟨rsb, hrsb⟩ : ∃ rs, rs = xb.rs := ⟨_, rfl⟩
      rw [← hrsb] at c0b HCLb
      clear hokb hxnb hrsb hxb hvb
      have HRA := hid_of (HNX.out Ra rsa xa.xs hRa.out)
      have HRB := hid_of (HNX.out Rb rsb xb.xs hRb.out)
      go_wp2_with (first
        | (go_at_call 17; ((with_reducible refine (COPA.out _ wr ja jb b M Ra Rb xa.xs rsa xba xna xca hJ.out hT.out hM.out (HXRa.out _ wr hb.out hT.out) HXBa.out HFXa.out).mono ?_); (rintro e w11 ⟨cd1, rfl, ⟨M1, q1, q2, q3, q4⟩⟩)); have J1 := hid_of q1; have N1 := hid_of q2; have B1 := hid_of (hb.out.trans q3); have T1 := hid_of (hT.out.same q4.1); have X1 := hid_of (hX.out.keep q4); have Y1 := hid_of (hY.out.keep q4); have K1 := hid_of (hK.out.keep q4); obtain ⟨d10, d11⟩ := HCLa.out w11 B1.out; clear q1 q2 q3 q4)
        | (go_at_call 16; ((with_reducible refine (CAF.out _ w11 Ra xa.xs rsa xo xon xoc xba xna xca X1.out (HXRa.out _ w11 B1.out T1.out) T1.out hRa.out HFXa.out).mono ?_); (rintro e w12 ⟨xo2, xn2, xc2, rfl, q1, q2⟩)); have X2 := hid_of q1; have J2 := hid_of (J1.out.bel q2); have Y2 := hid_of (Y1.out.tn q2); have K2 := hid_of (K1.out.tn q2); have B2 := hid_of (B1.out.trans (q2.mono T1.out.hB)); have T2 := hid_of (T1.out.next q2.size); obtain ⟨d20, d21⟩ := HCLb.out w12 B2.out; clear q1 q2)
        | (go_at_call 17; ((with_reducible refine (COPB.out _ w12 ja jb b M1 (nxtF Ra rsa xa.xs ar).1 Rb xb.xs rsb xbb xnb xcb J2.out T2.out N1.out (HXRb.out _ w12 B2.out T2.out) HXBb.out HFXb.out).mono ?_); (rintro e w13 ⟨cd3, rfl, ⟨M3, q1, q2, q3, q4⟩⟩)); have J3 := hid_of q1; have N3 := hid_of q2; have B3 := hid_of (B2.out.trans q3); have T3 := hid_of (T2.out.same q4.1); have X3 := hid_of (X2.out.keep q4); have Y3 := hid_of (Y2.out.keep q4); have K3 := hid_of (K2.out.keep q4); obtain ⟨d30, d31⟩ := HCLb.out w13 B3.out; clear q1 q2 q3 q4)
        | (go_at_call 16; ((with_reducible refine (CAF.out _ w13 Rb xb.xs rsb yo yon yoc xbb xnb xcb Y3.out (HXRb.out _ w13 B3.out T3.out) T3.out hRb.out HFXb.out).mono ?_); (rintro e w14 ⟨yo4, yn4, yc4, rfl, q1, q2⟩)); have Y4 := hid_of q1; have J4 := hid_of (J3.out.bel q2); have X4 := hid_of (X3.out.tn q2); have K4 := hid_of (K3.out.tn q2); have B4 := hid_of (B3.out.trans (q2.mono T3.out.hB)); have T4 := hid_of (T3.out.next q2.size); clear q1 q2))
      go_roundw
      case rel => exact ⟨i + 1, _, _, M3, _, xo2, xn2, xc2, yo4, yn4, yc4, Or.inl HLTa.out, by go_num, rfl, rfl, J4, T4, N3, X4, Y4, K4, HRA, HRB, B4⟩
      case measure => have := HLTa.out; simp [intOf]; omega
    · skip
      have da : decide (i < len) = true := decide_eq_true hlta
      have ia : (i : Int) < (len : Int) := by omega
      have db : decide (i < len3) = false := decide_eq_false hltb
      have ib : ¬ (i : Int) < (len3 : Int) := by omega
      obtain ⟨ga, oa, xa, xba, xna, xca, hxa, rfl, hva, c0a, c1a, hoka, hxna, hc1a, hc2a⟩ := (HIN.out wr hb.out).get hlta
      have HXBa := hid_of hoka.2
      have HFXa := hid_of (HFM.out xa (List.mem_of_getElem? hxa))
      have HLTa := hid_of hlta
      have HXRa := hid_of (fun (T : Nat → Prop) (X : World) (h : Below B w X) (t : TR B T X) => show RB T X (.slice xba xna xca) xa.xs from by
        obtain ⟨g', o', x', xb', xn', xc', hx', e', hv', c0', c1', hok', _⟩ := (HIN.out X h).get hlta
        rw [hxa] at hx'
        cases hx'
        exact JX.t hok' hva t)
      have HCLa := hid_of (fun (X : World) (hX : Below B w X) => show X.cell? ⟨ga, oa + i * 2, none⟩ = some (.bool xa.rs) ∧ X.cell? ⟨ga, oa + i * 2 + 1, none⟩ = some (.slice xba xna xca) from by
        obtain ⟨g', o', x', xb', xn', xc', hx', e', hv', c0', c1', _⟩ := (HIN.out X hX).get hlta
        simp only [Option.some.injEq, Addr.mk.injEq] at e'
        obtain ⟨rfl, rfl, _⟩ := e'
        rw [hxa] at hx'
        cases hx'
        rw [hva] at hv'
        cases hv'
        exact ⟨c0', c1'⟩)
      have xn9a : xna ≤ 9223372036854775807 := by have := (HXRa.out T wr hb.out hT.out).len.2; omega
      obtain ⟨rsa, hrsa⟩ : ∃ rs, rs = xa.rs := ⟨_, rfl⟩
      rw [← hrsa] at c0a HCLa
      clear hoka hxna hrsa hxa hva
      have HRA := hid_of (HNX.out Ra rsa xa.xs hRa.out)
      go_wp2_with (first
        | (go_at_call 17; ((with_reducible refine (COPA.out _ wr ja jb b M Ra Rb xa.xs rsa xba xna xca hJ.out hT.out hM.out (HXRa.out _ wr hb.out hT.out) HXBa.out HFXa.out).mono ?_); (rintro e w11 ⟨cd1, rfl, ⟨M1, q1, q2, q3, q4⟩⟩)); have J1 := hid_of q1; have N1 := hid_of q2; have B1 := hid_of (hb.out.trans q3); have T1 := hid_of (hT.out.same q4.1); have X1 := hid_of (hX.out.keep q4); have Y1 := hid_of (hY.out.keep q4); have K1 := hid_of (hK.out.keep q4); obtain ⟨d10, d11⟩ := HCLa.out w11 B1.out; clear q1 q2 q3 q4)
        | (go_at_call 16; ((with_reducible refine (CAF.out _ w11 Ra xa.xs rsa xo xon xoc xba xna xca X1.out (HXRa.out _ w11 B1.out T1.out) T1.out hRa.out HFXa.out).mono ?_); (rintro e w12 ⟨xo2, xn2, xc2, rfl, q1, q2⟩)); have X2 := hid_of q1; have J2 := hid_of (J1.out.bel q2); have Y2 := hid_of (Y1.out.tn q2); have K2 := hid_of (K1.out.tn q2); have B2 := hid_of (B1.out.trans (q2.mono T1.out.hB)); have T2 := hid_of (T1.out.next q2.size); clear q1 q2))
      go_roundw
      case rel => exact ⟨i + 1, _, _, M1, _, xo2, xn2, xc2, yo, yon, yoc, Or.inl HLTa.out, by go_num, rfl, rfl, J2, T2, N1, X2, Y2, K2, HRA, hRb, B2⟩
      case measure => have := HLTa.out; simp [intOf]; omega
    · skip
      have da : decide (i < len) = false := decide_eq_false hlta
      have ia : ¬ (i : Int) < (len : Int) := by omega
      have db : decide (i < len3) = true := decide_eq_true hltb
      have ib : (i : Int) < (len3 : Int) := by omega
      obtain ⟨gb, ob, xb, xbb, xnb, xcb, hxb, rfl, hvb, c0b, c1b, hokb, hxnb, hc1b, hc2b⟩ := (HIN2.out wr hb.out).get hltb
      have HXBb := hid_of hokb.2
      have HFXb := hid_of (HFM2.out xb (List.mem_of_getElem? hxb))
      have HLTb := hid_of hltb
      have HXRb := hid_of (fun (T : Nat → Prop) (X : World) (h : Below B w X) (t : TR B T X) => show RB T X (.slice xbb xnb xcb) xb.xs from by
        obtain ⟨g', o', x', xb', xn', xc', hx', e', hv', c0', c1', hok', _⟩ := (HIN2.out X h).get hltb
        rw [hxb] at hx'
        cases hx'
        exact JX.t hok' hvb t)
      have HCLb := hid_of (fun (X : World) (hX : Below B w X) => show X.cell? ⟨gb, ob + i * 2, none⟩ = some (.bool xb.rs) ∧ X.cell? ⟨gb, ob + i * 2 + 1, none⟩ = some (.slice xbb xnb xcb) from by
        obtain ⟨g', o', x', xb', xn', xc', hx', e', hv', c0', c1', _⟩ := (HIN2.out X hX).get hltb
        simp only [Option.some.injEq, Addr.mk.injEq] at e'
        obtain ⟨rfl, rfl, _⟩ := e'
        rw [hxb] at hx'
        cases hx'
        rw [hvb] at hv'
        cases hv'
        exact ⟨c0', c1'⟩)
      have xn9b : xnb ≤ 9223372036854775807 := by have := (HXRb.out T wr hb.out hT.out).len.2; omega
      obtain ⟨rsb, hrsb⟩ : ∃ rs, rs = xb.rs := ⟨_, rfl⟩
      rw [← hrsb] at c0b HCLb
      clear hokb hxnb hrsb hxb hvb
      have HRB := hid_of (HNX.out Rb rsb xb.xs hRb.out)
      go_wp2_with (first
        | (go_at_call 17; ((with_reducible refine (COPB.out _ wr ja jb b M Ra Rb xb.xs rsb xbb xnb xcb hJ.out hT.out hM.out (HXRb.out _ wr hb.out hT.out) HXBb.out HFXb.out).mono ?_); (rintro e w11 ⟨cd1, rfl, ⟨M1, q1, q2, q3, q4⟩⟩)); have J1 := hid_of q1; have N1 := hid_of q2; have B1 := hid_of (hb.out.trans q3); have T1 := hid_of (hT.out.same q4.1); have X1 := hid_of (hX.out.keep q4); have Y1 := hid_of (hY.out.keep q4); have K1 := hid_of (hK.out.keep q4); obtain ⟨d10, d11⟩ := HCLb.out w11 B1.out; clear q1 q2 q3 q4)
        | (go_at_call 16; ((with_reducible refine (CAF.out _ w11 Rb xb.xs rsb yo yon yoc xbb xnb xcb Y1.out (HXRb.out _ w11 B1.out T1.out) T1.out hRb.out HFXb.out).mono ?_); (rintro e w12 ⟨yo2, yn2, yc2, rfl, q1, q2⟩)); have Y2 := hid_of q1; have J2 := hid_of (J1.out.bel q2); have X2 := hid_of (X1.out.tn q2); have K2 := hid_of (K1.out.tn q2); have B2 := hid_of (B1.out.trans (q2.mono T1.out.hB)); have T2 := hid_of (T1.out.next q2.size); clear q1 q2))
      go_roundw
      case rel => exact ⟨i + 1, _, _, M1, _, xo, xon, xoc, yo2, yn2, yc2, Or.inr HLTb.out, by go_num, rfl, rfl, J2, T2, N1, X2, Y2, K2, hRa, HRB, B2⟩
      case measure => have := HLTb.out; simp [intOf]; omega
    · skip
      have da : decide (i < len) = false := decide_eq_false hlta
      have ia : ¬ (i : Int) < (len : Int) := by omega
      have db : decide (i < len3) = false := decide_eq_false hltb
      have ib : ¬ (i : Int) < (len3 : Int) := by omega
      go_wp2_with (first
        | (go_at_call 33; ((with_reducible refine (CRD1.out _ wr ja jb b M Ra Rb hJ.out hM.out).mono ?_); (rintro e w1' ⟨po, pn, pc, rfl, q1, q2⟩)); have P1 := hid_of q1; have J1 := hid_of (hJ.out.bel0 q2); have T1 := hid_of (hT.out.same q2.size); have X1 := hid_of (hX.out.bel q2); have Y1 := hid_of (hY.out.bel q2); have K1 := hid_of (hK.out.bel q2); have B1 := hid_of (hb.out.trans (q2.mono hT.out.hB)); clear q1 q2)
        | (go_at_call 33; ((with_reducible refine (CRD2.out _ w1' ja jb b M Ra Rb J1.out hM.out).mono ?_); (rintro e w2' ⟨so, sn, sc, rfl, q1, q2⟩)); have S2 := hid_of q1; have P2 := hid_of (P1.out.bel q2); have J2 := hid_of (J1.out.bel0 q2); have T2 := hid_of (T1.out.same q2.size); have X2 := hid_of (X1.out.bel q2); have Y2 := hid_of (Y1.out.bel q2); have K2 := hid_of (K1.out.bel q2); have B2 := hid_of (B1.out.trans (q2.mono T1.out.hB)); clear q1 q2)
        | (go_at_call 12; ((with_reducible refine (AW.out w2').mono ?_); (rintro e w3' ⟨rfl, q2⟩)); have S3 := hid_of (S2.out.bel q2); have P3 := hid_of (P2.out.bel q2); have J3 := hid_of (J2.out.bel0 q2); have T3 := hid_of (T2.out.same q2.size); have X3 := hid_of (X2.out.bel q2); have Y3 := hid_of (Y2.out.bel q2); have K3 := hid_of (K2.out.bel q2); have B3 := hid_of (B2.out.trans (q2.mono T2.out.hB)); clear q2)
        | (go_at_call 19; ((with_reducible refine (CRA.out _ w3' ja jb b M Ra Rb J3.out).mono ?_); (rintro e w4' ⟨go, gn, gc, rfl, q1, q2⟩)); have G4 := hid_of q1; have S4 := hid_of (S3.out.bel q2); have P4 := hid_of (P3.out.bel q2); have J4 := hid_of (J3.out.bel q2); have T4 := hid_of (T3.out.next q2.size); have X4 := hid_of (X3.out.tn q2); have Y4 := hid_of (Y3.out.tn q2); have K4 := hid_of (K3.out.tn q2); have B4 := hid_of (B3.out.trans (q2.mono T3.out.hB)); clear q1 q2)
        | (go_at_call 18; ((with_reducible refine (CSM.out _ _ Ra go gn gc xo xon xoc w4' G4.out X4.out).mono ?_); (rintro e w5' ⟨rfl, q2⟩)); have S5 := hid_of (S4.out.bel q2); have P5 := hid_of (P4.out.bel q2); have J5' := hid_of (J4.out.bel0 q2); have T5' := hid_of (T4.out.same q2.size); have Y5 := hid_of (Y4.out.bel q2); have K5' := hid_of (K4.out.bel q2); have B5' := hid_of (B4.out.trans (q2.mono T4.out.hB)); clear q2)
        | (go_at_call 19; ((with_reducible refine (CRB.out _ w5' ja jb b M Ra Rb J5'.out).mono ?_); (rintro e w6' ⟨ho, hn', hc', rfl, q1, q2⟩)); have G6 := hid_of q1; have S6 := hid_of (S5.out.bel q2); have P6 := hid_of (P5.out.bel q2); have T6' := hid_of (T5'.out.next q2.size); have Y6 := hid_of (Y5.out.tn q2); have K6' := hid_of (K5'.out.tn q2); have B6' := hid_of (B5'.out.trans (q2.mono T5'.out.hB)); clear q1 q2)
        | (go_at_call 18; ((with_reducible refine (CSM.out _ _ Rb ho hn' hc' yo yon yoc w6' G6.out Y6.out).mono ?_); (rintro e w7' ⟨rfl, q2⟩)); have V1 := CV.out w7' po pn pc (P6.out.bel q2); have V2 := CV.out w7' so sn sc (S6.out.bel q2); have V3 := CV.out w7' _ _ _ (cr_rd (K6'.out.bel q2)); have B7' := hid_of (B6'.out.trans (q2.mono T6'.out.hB)); clear q2))
      go_ret
      exact ⟨rfl, B7'.out⟩
end Go.Proofs.Ytofmijebinnejaa
