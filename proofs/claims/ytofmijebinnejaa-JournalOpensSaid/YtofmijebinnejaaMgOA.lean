/- Texts in one: JnZ, JnF, JrU, JrV, JrM, JrN, JrO, JrP, JrQ, JnY, JrT. -/
import Derived.Test.YtofmijebinnejaaMgRE
import Derived.Lib.AppendZerosOnto
import Derived.Deep.RegionHeld3
import Derived.Deep.RegionLaw
set_option linter.unusedVariables false
set_option linter.unusedSimpArgs false
/- append of made zeros onto an owned row, whether it fits in place or not. Bounds on sizes alone. -/
namespace Go.Proofs.Ytofmijebinnejaa
open Go.RowKit
set_option maxRecDepth 100000
set_option maxHeartbeats 3200000

theorem run_append_zeros_own {P : Program} (w : World) (base : Nat) (t tn ty e : TypeId) (i : TypeInfo) (z : Value) (bytes : Nat) (kq kn : IntKind) (ht : P.underlying t = some (.slice e)) (htn : P.underlying tn = some (.int kn)) (hi : P.info? e = some i) (hz : i.zero = some z)
    (hsize : i.size = 1) (hby : i.bytes = bytes) (hzs : z.cells.size = 1) (hzo : ∀ k, ∀ u ∈ (Builtin.zeroCells z.cells k).toList, u.oneCell' = true)
    (v : Value) (n : Nat) (xs : List Value) (hown : w.ownsRow base e 1 v n xs) (k : Nat) (h0 : 0 < k)
    (h63 : n + k ≤ 1000000) (hbytes : bytes ≤ 1000) (hbase : base ≤ w.heap.size) :
    ∃ v' w', (Builtin.append_ #[t, tn] ty #[v, .int kq k]).run P w = .ok v' w' ∧ w'.ownsRow base e 1 v' (n + k) (xs ++ (Builtin.zeroCells z.cells k).toList) ∧ w.grownBy w' v.ownBlock := by
  have hzl : (Builtin.zeroCells z.cells k).toList.length = k := by rw [Array.length_toList, size_zeroCells, hzs, Nat.mul_one]
  have hlen : (xs ++ (Builtin.zeroCells z.cells k).toList).length = (n + k) * 1 := by rw [List.length_append, hown.1, hzl, Nat.add_mul]; omega
  have hkb : (n + k) * bytes ≤ 140737488355328 := Nat.le_trans (Nat.mul_le_mul h63 hbytes) (by decide)
  have grown : ∀ (old : Nat), old < n + k →
      (w.drew.alloc (.cells (xs.toArray ++ Builtin.zeroCells z.cells k ++ Builtin.zeroCells z.cells (grownCap w (n + k) old e - (n + k))) e)).ownsRow base e 1
        (.slice (some ⟨w.heap.size, 0, none⟩) (n + k) (grownCap w (n + k) old e)) (n + k) (xs ++ (Builtin.zeroCells z.cells k).toList) ∧
      w.grownBy (w.drew.alloc (.cells (xs.toArray ++ Builtin.zeroCells z.cells k ++ Builtin.zeroCells z.cells (grownCap w (n + k) old e - (n + k))) e)) v.ownBlock := by
    intro old ho
    have hge := grownCap_ge w (n + k) old e
    have hcm : grownCap w (n + k) old e ≤ maxLen := grownCap_le_maxLen w (n + k) old e (by unfold maxLen; omega)
    have e1 : xs.toArray ++ Builtin.zeroCells z.cells k = (xs ++ (Builtin.zeroCells z.cells k).toList).toArray := by simp
    rw [e1]
    refine ⟨⟨hlen, .inr ⟨w.heap.size, _, _, rfl, hbase, heap_alloc_new w.drew _, hge, hcm, ?_, ?_⟩⟩, ⟨rfl, rfl, rfl, by simp, fun j hj _ => Go.RowKit.Below.heap_alloc w.drew _ j hj⟩⟩
    · rw [Array.size_append, List.size_toArray, size_zeroCells, hzs, hlen, ← Nat.add_mul]
      congr 1
      omega
    · rw [Array.toList_append, ← hlen]
      exact List.take_left
  have fits : ∀ old, old < n + k → Builtin.nextslicecap (n + k) old * i.bytes ≤ 281474976710656 := fun old ho => by
    rw [hby]
    exact growslice_fits ho hkb
  have kb : k * i.bytes ≤ 281474976710656 := by rw [hby]; exact Nat.le_trans (Nat.mul_le_mul (show k ≤ 1000000 by omega) hbytes) (by decide)
  have hk9 : ((n + k : Nat) : Int) ≤ 9223372036854775807 := by omega
  rcases hown.2 with ⟨rfl, rfl⟩ | ⟨g, cap, cur, rfl, hbg, hg, hnc, hcm, hcs, htake⟩
  · have hx : xs = [] := List.eq_nil_of_length_eq_zero (by simpa using hown.1)
    subst hx
    have hr := Go.Lib.run_append_grow_zeros (P := P) w t tn ty e i z kq kn ht htn hi hz none 0 0 [] (by simp [Builtin.firstCells]) k h0 (by omega) (by omega) (by simpa using hk9) kb (fits 0 (by omega))
    have hgr := grown 0 (by omega)
    simp only [Nat.zero_add] at hr hgr ⊢
    exact ⟨_, _, hr, hgr.1, hgr.2⟩
  · by_cases hroom : n + k ≤ cap
    · have hfit : n * 1 + (Builtin.zeroCells z.cells k).toList.length ≤ cur.size := by rw [hzl, hcs]; omega
      have hst := run_storeCells_at P g (n * 1) e (Builtin.zeroCells z.cells k).toList 0 cur w hg (by simpa using hfit) (hzo k)
      simp only [Nat.add_zero] at hst
      have hw : IntKind.i64.wrap (k : Int) = k := IntWalk.i64_in _ (by omega)
      have hneg : ¬ ((k : Int) < 0) := by omega
      have h48i : ¬ (281474976710656 < (k : Int) * (i.bytes : Int)) := by
        rw [← Int.natCast_mul]
        omega
      have hns : ¬ (k * i.size = 0) := by rw [hsize]; omega
      have hk0 : k ≠ 0 := by omega
      have hr : (Builtin.append_ #[t, tn] ty #[.slice (some ⟨g, 0, none⟩) n cap, .int kq k]).run P w =
          .ok (.slice (some ⟨g, 0, none⟩) (n + k) cap) (w.setRow g (cur.toList.take (n * 1) ++ (Builtin.zeroCells z.cells k).toList ++ cur.toList.drop (n * 1 + (Builtin.zeroCells z.cells k).toList.length)).toArray) := by
        simp [Builtin.append_, run_underlying ht, run_underlying htn, sizeOf, typeInfo, zeroValue, hi, hz, asInt, asIntOf, hw, hneg, hk0, hsize, h48i, hroom, Addr.add_lit]
        have hst2 : Sem.run P (storeCells { block := g, off := n } (Builtin.zeroCells z.cells k).toList) w = .ok () (w.setRow g (cur.toList.take (n * 1) ++ (Builtin.zeroCells z.cells k).toList ++ cur.toList.drop (n * 1 + (Builtin.zeroCells z.cells k).toList.length)).toArray) := by simpa using hst
        rw [hst2]
        simp
      refine ⟨_, _, hr, ⟨hlen, .inr ⟨g, cap, _, rfl, hbg, setRow_heap w g cur _ e _ hg, hroom, hcm, ?_, ?_⟩⟩, ⟨rfl, rfl, rfl, by simp, fun j _ hj => setRow_other w g j _ (fun e => hj (by simp [Value.ownBlock, e]))⟩⟩
      · rw [List.size_toArray, List.length_append, List.length_append, List.length_take, List.length_drop, Array.length_toList]
        have e9 := hzl
        omega
      · rw [htake, ← hlen]
        exact List.take_left
    · have holds : ∀ j u, xs[j]? = some u → w.drew.cell? ((⟨g, 0, none⟩ : Addr).add j) = some u := by simpa using hown.cells (g := g) rfl
      have hr := Go.Lib.run_append_grow_zeros (P := P) w t tn ty e i z kq kn ht htn hi hz (some ⟨g, 0, none⟩) n cap xs (run_firstCells_some w.drew i.size n ⟨g, 0, none⟩ n cap xs (by rw [hsize]; exact hown.1) holds) k h0 (by omega) (by omega) hk9 kb (fits cap (by omega))
      have hgr := grown cap (by omega)
      exact ⟨_, _, hr, hgr.1, hgr.2⟩
end Go.Proofs.Ytofmijebinnejaa

/- A disk with a full cache that does not fail, as mathematics: the journal's operations act as on its contents. Bounds on sizes alone. -/
namespace Go.Proofs.Ytofmijebinnejaa
set_option maxRecDepth 100000

/-- The disk, if its cache were written. -/
def flat (M : DM) : DM := { M with secs := putF M.secs M.cache, cache := [] }
theorem flat_clean {M : DM} (h : M.cache = []) : flat M = M := by
  obtain ⟨a, b, c, d, e⟩ := M
  simp only at h
  subst h
  rfl
theorem putF_append (S : List (List Int)) (a b : List (Nat × List Int)) : putF S (a ++ b) = putF (putF S a) b := by unfold putF; rw [List.foldl_append]
theorem flat_len (M : DM) : (flat M).secs.length = M.secs.length := putF_len _ _
theorem nf_flat {M : DM} (h : NF M) : NF (flat M) := h
theorem nf_step_eq {M : DM} (h : NF M) : stepF M = (true, M) := by
  unfold stepF
  rw [if_neg (by rw [h.1, h.2]; simp), h.2]
  obtain ⟨a, b, c, d, e⟩ := M
  have : e = -1 := h.2
  subst this
  rfl
theorem nf_write_eq {M : DM} (h : NF M) {s : Nat} {l : List Int} (hs : s < M.secs.length) (hl : l.length = M.sz) : writeF M s l = (0, { M with cache := M.cache ++ [(s, l)] }) := by
  have hf : M.fits s = true := by simp only [DM.fits, decide_eq_true_eq]; omega
  unfold writeF
  rw [if_neg (by rw [hf]; simp [hl]), nf_step_eq h, if_neg (by simp), Int.toNat_natCast]
theorem nf_sync_eq {M : DM} (h : NF M) : syncF M = (0, flat M) := by
  unfold syncF
  rw [nf_step_eq h, if_neg (by simp)]
  rfl
theorem flat_ok {M : DM} (h : NF M) (hok : M.Ok) : (flat M).Ok := by
  have := hok.sync
  rwa [nf_sync_eq h] at this
/-- The writes of fill. -/
def wsF (fs : Nat) (L : List Int) (sz st : Nat) : Nat → List (Nat × List Int)
  | 0 => []
  | i + 1 => wsF fs L sz st i ++ [(fs + 1 + (st + i), secL L sz (st + i))]
theorem nf_fil_eq {M : DM} (h : NF M) {fs st : Nat} {L : List Int} : ∀ i, fs + 1 + (st + i) ≤ M.secs.length → filF M fs L st i = (true, { M with cache := M.cache ++ wsF fs L M.sz st i })
  | 0, _ => by
    show (true, M) = _
    rw [wsF, List.append_nil]
  | i + 1, hi => by
    have ih := nf_fil_eq h (fs := fs) (st := st) (L := L) i (by omega)
    rw [filF, ih]
    have hw := nf_write_eq (M := { M with cache := M.cache ++ wsF fs L M.sz st i }) h (s := fs + 1 + (st + i)) (l := secL L M.sz (st + i)) (by show _ < M.secs.length; omega) (secL_len _ _ _)
    simp only [if_true, hw, wsF, List.append_assoc]
    rfl
theorem flat_more (M : DM) (ws : List (Nat × List Int)) : flat { M with cache := M.cache ++ ws } = flat { flat M with cache := (flat M).cache ++ ws } := by
  show ({ M with secs := putF M.secs (M.cache ++ ws), cache := [] } : DM) = { M with secs := putF (putF M.secs M.cache) ([] ++ ws), cache := [] }
  rw [putF_append, List.nil_append]
theorem nf_fill_eq {M : DM} (h : NF M) {fs st n : Nat} {L : List Int} (hn : fs + 1 + (st + n) ≤ M.secs.length) : fillF M fs L st n = fillF (flat M) fs L st n := by
  have h1 := nf_fil_eq h (L := L) n hn
  have h2 := nf_fil_eq (nf_flat h) (L := L) n (by rw [flat_len]; exact hn)
  have h3 := nf_sync_eq (M := { M with cache := M.cache ++ wsF fs L M.sz st n }) h
  have h4 := nf_sync_eq (M := { flat M with cache := (flat M).cache ++ wsF fs L (flat M).sz st n }) h
  unfold fillF
  rw [h1, h2]
  simp only [if_true]
  rw [h3, h4, flat_more]
  rfl
theorem nf_com_eq {M : DM} (h : NF M) {fs n : Nat} (hs : fs < M.secs.length) (hz : 16 ≤ M.sz) (hn : n ≤ 268435456) : comF M fs n = comF (flat M) fs n := by
  have h1 := nf_write_eq h hs (headF_len hn hz)
  have h2 := nf_write_eq (nf_flat h) (s := fs) (l := headF (flat M).sz n) (by rw [flat_len]; exact hs) (headF_len hn hz)
  have h3 := nf_sync_eq (M := { M with cache := M.cache ++ [(fs, headF M.sz n)] }) h
  have h4 := nf_sync_eq (M := { flat M with cache := (flat M).cache ++ [(fs, headF (flat M).sz n)] }) h
  unfold comF
  rw [h1, h2]
  simp only [if_true]
  rw [h3, h4, flat_more]
  rfl
theorem Fit.flat {M : DM} {fs ct : Nat} {d : List Int} (f : Fit M fs ct d) (h : NF M) : Fit (flat M) fs ct d := ⟨flat_ok h f.ok, by rw [flat_len]; exact f.reg, f.len, f.sz⟩
theorem nf_app_eq {M : DM} (h : NF M) {fs ct : Nat} {d T : List Int} (f : Fit M fs ct d) (hL : (d ++ T).length ≤ (ct - 1) * M.sz) : appF M fs d (d ++ T) = appF (flat M) fs d (d ++ T) := by
  have hreg := f.reg
  obtain ⟨r1, r2, r3⟩ := fil_range f hL
  have h1 : filA M fs d (d ++ T) = filA (flat M) fs d (d ++ T) := nf_fill_eq h (by rw [r1]; omega)
  unfold appF
  rw [h1]
/-- What Read gives, through the cache. -/
theorem look_put (S : List (List Int)) (c : List (Nat × List Int)) {s : Nat} (hs : s < S.length) : ∀ k, k ≤ c.length → (lookF c s k).getD (S.getD s []) = (putF S (c.take k)).getD s []
  | 0, _ => rfl
  | k + 1, hk => by
    have ih := look_put S c hs k (by omega)
    have hp : c[k]? = some c[k] := List.getElem?_eq_getElem (by omega)
    rw [lookF, hp, putF_take S c k _ hp]
    simp only []
    by_cases e : c[k].1 = s
    · rw [if_pos e, e, getD_set (by rw [putF_len]; exact hs)]
      rfl
    · rw [if_neg e, getD_ne e]
      exact ih
theorem read_flat {M : DM} (ho : M.off = false) {s : Nat} (hs : s < M.secs.length) : (readF M (s : Int)).1 = (flat M).secs.getD s [] ∧ (readF M (s : Int)).2 = 0 := by
  have hf : M.fits s = true := by simp only [DM.fits, decide_eq_true_eq]; omega
  rw [readF, if_neg (by rw [hf]; simp), if_neg (by rw [ho]; simp)]
  refine ⟨?_, rfl⟩
  show M.content (s : Int).toNat = _
  rw [Int.toNat_natCast, DM.content, look_put M.secs M.cache hs _ (Nat.le_refl _), List.take_length]
  rfl
/-- A region of zeros, read through the cache. -/
theorem zero_region {M : DM} {fs ct : Nat} (hok : M.Ok) (ho : M.off = false) (hreg : fs + ct ≤ M.secs.length ∧ 2 ≤ ct) (hz : ∀ s, fs ≤ s → s < fs + ct → (flat M).secs.getD s [] = List.replicate M.sz 0) (hn : NF M) : RdOk M fs ct ∧ holdsF (headC M fs) (areaC M fs ct) = some [] ∧ Good (flat M) fs ct (streamF []) := by
  have h1 : headC M fs = List.replicate M.sz 0 := (read_flat ho (s := fs) (by omega)).1.trans (hz fs (Nat.le_refl _) (by omega))
  have h2 : ∀ i, i < ct - 1 → secC M fs i = List.replicate M.sz 0 := fun i hi => (read_flat ho (s := fs + 1 + i) (by omega)).1.trans (hz _ (by omega) (by omega))
  have hr : ∀ x ∈ List.replicate M.sz (0 : Int), 0 ≤ x ∧ x ≤ 255 := fun x hx => by have := List.eq_of_mem_replicate hx; omega
  refine ⟨⟨by rw [h1]; simp, by rw [h1]; exact hr, fun i hi => by rw [h2 i hi]; simp, fun i hi => by rw [h2 i hi]; exact hr⟩, by rw [h1]; exact hold_zero, rfl, hn.1, ?_, fun i hi => agr_high (by simp [streamF])⟩
  rw [hz fs (Nat.le_refl _) (by omega), hd_zero]
  rfl
end Go.Proofs.Ytofmijebinnejaa

/- Two journals on one disk that does not fail. Bounds on sizes alone. -/
namespace Go.Proofs.Ytofmijebinnejaa
open Go.RowKit
set_option maxRecDepth 100000
set_option maxHeartbeats 3200000

section
variable (S SD T : Nat → Prop) (w : World) (jb b : Nat) (M : DM) (fs ct : Nat) (R : List (List Int)) (vs : Value)
/-- What an operation gives where the disk does not fail, whatever its cache holds. -/
def NfQ (w' : World) (rs : Bool) (X : List (List Int)) (cd : Int) : Prop := cd = (nxtF R rs X ((ct - 1) * M.sz)).2 ∧ ∃ M', JkNx S w w' jb b M' fs ct (nxtF R rs X ((ct - 1) * M.sz)).1 true ∧ Kept S w w' ∧ NF M' ∧ M'.sz = M.sz ∧ M'.secs.length = M.secs.length ∧ M'.cache.length ≤ M.cache.length ∧ Good (flat M') fs ct (streamF (nxtF R rs X ((ct - 1) * M.sz)).1) ∧ ∀ s, s < M.secs.length → s < fs ∨ fs + ct ≤ s → (flat M').secs.getD s [] = (flat M).secs.getD s []
theorem rst_nf (X : List (List Int)) (h : JK S SD w jb b M fs ct (streamF R) true vs) (hlt : ∀ k, S k → k < w.heap.size) (hc : M.cache.length + 65536 < 1000000) (hn : NF M) (hg : Good (flat M) fs ct (streamF R)) :
    Calls Try.prog 35 #[.pointer (some ⟨jb, 0, none⟩)] w fun e w' => ∃ cd, e = .returned (.int .i64 cd) ∧ NfQ S w jb b M fs ct R w' true X cd := by
  have f := h.fit
  have hreg := f.reg
  have hcl := f.bound
  have he := nf_com_eq hn (fs := fs) (n := 0) (by omega) f.sz (by omega)
  obtain ⟨n1, n2⟩ := nf_com hn (fs := fs) (n := 0) (by omega) f.sz (by omega)
  obtain ⟨s1, s2, s3⟩ := comF_same M fs 0
  obtain ⟨g1, g2⟩ := reset_true hg (f.flat hn) (by rw [← he]; exact n1)
  rw [← he] at g1 g2
  refine (reset_on S SD w jb b M fs ct (streamF R) vs h hlt hn.1 (by omega)).mono fun e w' ⟨q1, ⟨SD2, q2⟩, q3⟩ => ⟨0, by rw [q1, if_pos n1], rfl, (comF M fs 0).2, ⟨_, SD2, _, by rw [if_pos n1, if_pos n1, n1] at q2; exact q2, fun k hk => hk⟩, q3, n2, s2, s1, by rw [g1.clean]; simp, by rw [flat_clean g1.clean]; exact g1, fun s _ h3 => ?_⟩
  rw [flat_clean g1.clean]
  exact g2 s (by omega)
theorem app_nf (X : List (List Int)) (a : Option Addr) (n c : Nat) (h : JK S SD w jb b M fs ct (streamF R) true vs) (hlt : ∀ k, S k → k < w.heap.size) (hT0 : ∀ k, T k → k < w.heap.size ∧ ¬ S k) (hR : RB T w (.slice a n c) X) (hl : (streamF X).length ≤ 1000000000) (hc : M.cache.length + 65536 < 1000000) (hn : NF M) (hg : Good (flat M) fs ct (streamF R)) :
    Calls Try.prog 32 #[.pointer (some ⟨jb, 0, none⟩), .slice a n c] w fun e w' => ∃ cd, e = .returned (.int .i64 cd) ∧ NfQ S w jb b M fs ct R w' false X cd := by
  have f := h.fit
  have hreg := f.reg
  have hcl := f.bound
  have hT : ∀ k, T k → k < w.heap.size ∧ k ≠ jb := fun k hk => ⟨(hT0 k hk).1, fun e => (hT0 k hk).2 (by rw [e]; exact h.sj)⟩
  have hsl : (streamF (R ++ X)).length = (streamF R).length + (streamF X).length := by rw [stream_append, List.length_append]
  by_cases hsm : ¬ ((streamF R).length + (streamF X).length ≤ (ct - 1) * M.sz) ∨ X = []
  · have hnx : nxtF R false X ((ct - 1) * M.sz) = (R, if (streamF R).length + (streamF X).length ≤ (ct - 1) * M.sz then 0 else 7) := by
      unfold nxtF
      rw [if_neg (by simp), hsl]
      by_cases hfit : (streamF R).length + (streamF X).length ≤ (ct - 1) * M.sz
      · rcases hsm with h3 | h3
        · exact absurd hfit h3
        · rw [if_pos hfit, if_neg (by omega), h3, List.append_nil]
      · rw [if_neg hfit, if_pos (by omega)]
    refine (append_small S SD T w jb b M fs ct (streamF R) vs X a n c h hlt hn.1 hT hR hl hsm).mono fun e w' ⟨q1, q2, q3⟩ => ⟨_, q1, ?_⟩
    unfold NfQ
    rw [hnx]
    exact ⟨rfl, M, ⟨_, _, _, q2, fun k hk => Or.inl hk⟩, q3, hn, rfl, rfl, Nat.le_refl _, hg, fun _ _ _ => rfl⟩
  · simp only [not_or, Decidable.not_not] at hsm
    obtain ⟨hfit, hne⟩ := hsm
    have hL : (streamF R ++ streamF X).length ≤ (ct - 1) * M.sz := by rw [List.length_append]; exact hfit
    have hnx : nxtF R false X ((ct - 1) * M.sz) = (R ++ X, 0) := by
      unfold nxtF
      rw [if_neg (by simp), if_neg (by omega)]
    have he := nf_app_eq hn f hL
    obtain ⟨n1, n2⟩ := nf_app hn f hL
    obtain ⟨s1, s2, s3⟩ := filA_same M fs ct (streamF R) (streamF R ++ streamF X) f.sz hL (by have := f.ok.secs; omega)
    have sA : (appF M fs (streamF R) (streamF R ++ streamF X)).2.secs.length = M.secs.length ∧ (appF M fs (streamF R) (streamF R ++ streamF X)).2.sz = M.sz := by
      unfold appF
      split
      · obtain ⟨t1, t2, _⟩ := comF_same (filA M fs (streamF R) (streamF R ++ streamF X)).2 fs (streamF R ++ streamF X).length
        exact ⟨t1.trans s1, t2.trans s2⟩
      · exact ⟨s1, s2⟩
    obtain ⟨g1, g2⟩ := app_true hg (f.flat hn) hL (by rw [← he]; exact n1)
    rw [← he] at g1 g2
    refine (append_go S SD T w jb b M fs ct (streamF R) vs X a n c h hlt hn.1 hT hR hfit hne hc).mono fun e w' ⟨q1, ⟨SD2, vs2, q2⟩, q3⟩ => ⟨0, by rw [q1, if_pos n1], ?_⟩
    unfold NfQ
    rw [hnx]
    refine ⟨rfl, (appF M fs (streamF R) (streamF R ++ streamF X)).2, ⟨_, SD2, vs2, by rw [if_pos n1, n1] at q2; rw [stream_append]; exact q2, fun k hk => hk⟩, q3, n2, sA.2, sA.1, by rw [g1.clean]; simp, by rw [flat_clean g1.clean, stream_append]; exact g1, fun s h1 h2 => ?_⟩
    rw [flat_clean g1.clean]
    exact g2 s (by rw [flat_len]; exact h1) h2
theorem do_nf (rs : Bool) (X : List (List Int)) (a : Option Addr) (n c : Nat) (h : JK S SD w jb b M fs ct (streamF R) true vs) (hlt : ∀ k, S k → k < w.heap.size) (hT : ∀ k, T k → k < w.heap.size ∧ ¬ S k) (hR : RB T w (.slice a n c) X) (hl : (streamF X).length ≤ 1000000000) (hc : M.cache.length + 65536 < 1000000) (hn : NF M) (hg : Good (flat M) fs ct (streamF R)) :
    Calls Try.prog 17 #[.pointer (some ⟨jb, 0, none⟩), .agg #[.bool rs, .slice a n c]] w fun e w' => ∃ cd, e = .returned (.int .i64 cd) ∧ NfQ S w jb b M fs ct R w' rs X cd := by
  obtain ⟨w1, hw1⟩ : ∃ w1, w1 = w.alloc (opBox rs a n c) := ⟨_, rfl⟩
  have ba : Below w.heap.size w w1 := by rw [hw1]; exact bel_alloc w _
  have hs1 := ba.size
  have h1 : JK S SD w1 jb b M fs ct (streamF R) true vs := h.keep ⟨ba.size, fun k hk hl => ba.block k hl⟩
  have hlt1 : ∀ k, S k → k < w1.heap.size := fun k hk => Nat.lt_of_lt_of_le (hlt k hk) hs1
  have hT1 : ∀ k, T k → k < w1.heap.size ∧ ¬ S k := fun k hk => ⟨Nat.lt_of_lt_of_le (hT k hk).1 hs1, (hT k hk).2⟩
  have hR1 : RB T w1 (.slice a n c) X := hR.keep ⟨ba.size, fun k hk hl => ba.block k hl⟩
  have up : ∀ {w' cd}, NfQ S w1 jb b M fs ct R w' rs X cd → NfQ S w jb b M fs ct R w' rs X cd := fun ⟨e1, M', ⟨x, y, z, j, hj⟩, k, r⟩ => ⟨e1, M', ⟨x, y, z, j, fun k hk => by
    rcases hj k hk with hk | hk
    · exact Or.inl hk
    · exact Or.inr ⟨by omega, hk.2⟩⟩, (show Kept S w w1 from ⟨ba.os, ba.tape, ba.output, ba.size, fun k hk _ => ba.block k hk⟩).trans k, r⟩
  cases rs with
  | true =>
    refine do_reset _ _ _ _ _ _ ?_
    rw [← hw1]
    exact (rst_nf S SD w1 jb b M fs ct R vs X h1 hlt1 hc hn hg).mono fun e w' ⟨cd, q1, q2⟩ => ⟨cd, q1, up q2⟩
  | false =>
    refine do_append _ _ _ _ _ _ ?_
    rw [← hw1]
    exact (app_nf S SD T w1 jb b M fs ct R vs X a n c h1 hlt1 hT1 hR1 hl hc hn hg).mono fun e w' ⟨cd, q1, q2⟩ => ⟨cd, q1, up q2⟩
end
/-- The blocks of a journal and its disk. -/
abbrev JS (jb : Nat) (vs : Value) (SD : Nat → Prop) : Nat → Prop := fun k => k = jb ∨ vs.ownBlock = some k ∨ SD k
theorem JK.min {S SD : Nat → Prop} {w : World} {jb b : Nat} {M : DM} {fs ct : Nat} {d : List Int} {wk : Bool} {vs : Value} (h : JK S SD w jb b M fs ct d wk vs) : JK (JS jb vs SD) SD w jb b M fs ct d wk vs :=
  ⟨Or.inl rfl, fun k hk => Or.inr (Or.inr hk), h.nj, h.box, h.dk, h.str, fun k hk => ⟨Or.inr (Or.inl hk), (h.si k hk).2⟩, h.reg, h.len, h.sz⟩
/-- Two journals on one disk: neither has a block of the other. -/
structure J2 (B : Nat) (T : Nat → Prop) (w : World) (j1 f1 : Nat) (R1 : List (List Int)) (j2 f2 : Nat) (R2 : List (List Int)) (b : Nat) (M : DM) (n : Nat) : Prop where
  ex : ∃ SD v1 v2, JK (JS j1 v1 SD) SD w j1 b M f1 n (streamF R1) true v1 ∧ JK (JS j2 v2 SD) SD w j2 b M f2 n (streamF R2) true v2 ∧ j1 ≠ j2 ∧ v1.ownBlock ≠ some j2 ∧ v2.ownBlock ≠ some j1 ∧ (∀ k, v1.ownBlock = some k → v2.ownBlock ≠ some k) ∧ (∀ k, JS j1 v1 SD k ∨ JS j2 v2 SD k → B ≤ k ∧ k < w.heap.size ∧ ¬ T k)
  g1 : Good (flat M) f1 n (streamF R1)
  g2 : Good (flat M) f2 n (streamF R2)
  nf : NF M
  cch : M.cache.length ≤ 10
  far : f1 + n ≤ f2 ∨ f2 + n ≤ f1
  b1 : Byt (streamF R1)
  b2 : Byt (streamF R2)
section
variable {B : Nat} {T : Nat → Prop} {w w' : World} {j1 f1 : Nat} {R1 : List (List Int)} {j2 f2 : Nat} {R2 : List (List Int)} {b : Nat} {M : DM} {n : Nat}
theorem J2.swap (h : J2 B T w j1 f1 R1 j2 f2 R2 b M n) : J2 B T w j2 f2 R2 j1 f1 R1 b M n := by
  obtain ⟨SD, v1, v2, h1, h2, h3, h4, h5, h6, h7⟩ := h.ex
  exact ⟨⟨SD, v2, v1, h2, h1, Ne.symm h3, h5, h4, fun k hk e => h6 k e hk, fun k hk => h7 k hk.symm⟩, h.g2, h.g1, h.nf, h.cch, h.far.symm, h.b2, h.b1⟩
theorem J2.bel (h : J2 B T w j1 f1 R1 j2 f2 R2 b M n) (hb : Below w.heap.size w w') : J2 B (Tn T w w') w' j1 f1 R1 j2 f2 R2 b M n := by
  obtain ⟨SD, v1, v2, h1, h2, h3, h4, h5, h6, h7⟩ := h.ex
  refine ⟨⟨SD, v1, v2, h1.keep ⟨hb.size, fun k _ hl => hb.block k hl⟩, h2.keep ⟨hb.size, fun k _ hl => hb.block k hl⟩, h3, h4, h5, h6, fun k hk => ⟨(h7 k hk).1, Nat.lt_of_lt_of_le (h7 k hk).2.1 hb.size, fun ht => ?_⟩⟩, h.g1, h.g2, h.nf, h.cch, h.far, h.b1, h.b2⟩
  rcases ht with ht | ht
  · exact (h7 k hk).2.2 ht
  · have := (h7 k hk).2.1; omega
theorem J2.bel0 (h : J2 B T w j1 f1 R1 j2 f2 R2 b M n) (hb : Below w.heap.size w w') : J2 B T w' j1 f1 R1 j2 f2 R2 b M n := by
  obtain ⟨SD, v1, v2, h1, h2, h3, h4, h5, h6, h7⟩ := h.ex
  exact ⟨⟨SD, v1, v2, h1.keep ⟨hb.size, fun k _ hl => hb.block k hl⟩, h2.keep ⟨hb.size, fun k _ hl => hb.block k hl⟩, h3, h4, h5, h6, fun k hk => ⟨(h7 k hk).1, Nat.lt_of_lt_of_le (h7 k hk).2.1 hb.size, (h7 k hk).2.2⟩⟩, h.g1, h.g2, h.nf, h.cch, h.far, h.b1, h.b2⟩
/-- An operation on the first. -/
theorem J2.op (h : J2 B T w j1 f1 R1 j2 f2 R2 b M n) (t : TR B T w) (rs : Bool) (X : List (List Int)) (a : Option Addr) (m c : Nat) (hX : RB T w (.slice a m c) X) (hb : ∀ l ∈ X, Byt l) (hl : (streamF X).length ≤ 6200) :
    Calls Try.prog 17 #[.pointer (some ⟨j1, 0, none⟩), .agg #[.bool rs, .slice a m c]] w fun e w' => ∃ cd, e = .returned (.int .i64 cd) ∧ ∃ M', J2 B T w' j1 f1 (nxtF R1 rs X ((n - 1) * M.sz)).1 j2 f2 R2 b M' n ∧ M'.sz = M.sz ∧ M'.secs.length = M.secs.length ∧ Below B w w' ∧ Keeps T w w' ∧ ∀ s, s < M.secs.length → s < f1 ∨ f1 + n ≤ s → (flat M').secs.getD s [] = (flat M).secs.getD s [] := by
  obtain ⟨SD, v1, v2, h1, h2, h3, h4, h5, h6, h7⟩ := h.ex
  have hcc := h.cch
  have hfar := h.far
  refine (do_nf (JS j1 v1 SD) SD T w j1 b M f1 n R1 v1 rs X a m c h1 (fun k hk => (h7 k (Or.inl hk)).2.1) (fun k hk => ⟨t.lt k hk, fun hs => (h7 k (Or.inl hs)).2.2 hk⟩) hX (by omega) (by omega) h.nf h.g1).mono fun e w' ⟨cd, q1, e1, M', ⟨S', SD', v1', j', hs'⟩, k', n', z', l', c', g', o'⟩ => ⟨cd, q1, M', ?_, z', l', k'.below t.hB fun k hk => (h7 k (Or.inl hk)).1, ⟨k'.size, fun k hk hl => k'.block k hl fun hs => (h7 k (Or.inl hs)).2.2 hk⟩, o'⟩
  have hsz := k'.size
  -- what is private to the second is no block of the first or its disk
  have p2 : ∀ k, (k = j2 ∨ v2.ownBlock = some k) → ¬ JS j1 v1 SD k ∧ k < w.heap.size := fun k hk => by
    rcases hk with rfl | hk
    · exact ⟨fun hs => by
        rcases hs with hs | hs | hs
        · exact h3 hs.symm
        · exact h4 hs
        · exact h2.nj hs, (h7 _ (Or.inr (Or.inl rfl))).2.1⟩
    · exact ⟨fun hs => by
        rcases hs with hs | hs | hs
        · exact h5 (by rw [hk, hs])
        · exact h6 k hs hk
        · exact (h2.si k hk).2.2 hs, (h7 _ (Or.inr (Or.inr (Or.inl hk)))).2.1⟩
  have p2' : ∀ k, (k = j2 ∨ v2.ownBlock = some k) → ¬ S' k := fun k hk hs => by
    rcases hs' k hs with h9 | h9
    · exact (p2 k hk).1 h9
    · have := (p2 k hk).2; omega
  have bl2 : ∀ k, (k = j2 ∨ v2.ownBlock = some k) → w'.heap[k]? = w.heap[k]? := fun k hk => k'.block k (p2 k hk).2 (p2 k hk).1
  have J2' : JK (JS j2 v2 SD') SD' w' j2 b M' f2 n (streamF R2) true v2 :=
    ⟨Or.inl rfl, fun k hk => Or.inr (Or.inr hk), fun hs => p2' j2 (Or.inl rfl) (j'.sd _ hs), (bl2 j2 (Or.inl rfl)).trans h2.box, j'.dk, own_same h2.str fun k hk => bl2 k (Or.inr hk), fun k hk => ⟨Or.inr (Or.inl hk), (h2.si k hk).2.1, fun hs => p2' k (Or.inr hk) (j'.sd _ hs)⟩, by rw [l']; exact h2.reg, by rw [z']; exact h2.len, by rw [z']; exact h2.sz⟩
  have in1 : ∀ k, JS j1 v1' SD' k → S' k := fun k hk => by
    rcases hk with rfl | hk | hk
    · exact j'.sj
    · exact (j'.si k hk).1
    · exact j'.sd k hk
  refine ⟨⟨SD', v1', v2, j'.min, J2', h3, fun e => p2' j2 (Or.inl rfl) (j'.si _ e).1, h5, fun k hk e => p2' k (Or.inr e) (j'.si k hk).1, fun k hk => ?_⟩, g', ⟨g'.clean, g'.on, ?_, fun i hi => ?_⟩, n', by omega, h.far, ?_, h.b2⟩
  · have hnew : S' k → B ≤ k ∧ k < w'.heap.size ∧ ¬ T k := fun hs => by
      rcases hs' k hs with h9 | h9
      · exact ⟨(h7 k (Or.inl h9)).1, Nat.lt_of_lt_of_le (h7 k (Or.inl h9)).2.1 hsz, (h7 k (Or.inl h9)).2.2⟩
      · exact ⟨by have := t.hB; omega, h9.2, fun ht => by have := t.lt k ht; omega⟩
    rcases hk with hk | hk
    · exact hnew (in1 k hk)
    · rcases hk with hk | hk | hk
      · have := h7 k (Or.inr (Or.inl hk)); exact ⟨this.1, Nat.lt_of_lt_of_le this.2.1 hsz, this.2.2⟩
      · have := h7 k (Or.inr (Or.inr (Or.inl hk))); exact ⟨this.1, Nat.lt_of_lt_of_le this.2.1 hsz, this.2.2⟩
      · exact hnew (j'.sd k hk)
  · have hr2 := h2.reg
    rw [o' f2 (by omega) (by omega)]
    exact h.g2.hd
  · have hr2 := h2.reg
    have h8 := h.g2.ar i hi
    rw [o' (f2 + 1 + i) (by omega) (by omega)]
    rw [show (flat M').sz = (flat M).sz from z']
    exact h8
  · have hRX := byt_stream hb
    unfold nxtF
    split
    · intro x hx; simp [streamF] at hx
    · split
      · exact h.b1
      · intro x hx
        rw [stream_append] at hx
        rcases List.mem_append.1 hx with h9 | h9
        · exact h.b1 x h9
        · exact hRX x h9
theorem J2.records (h : J2 B T w j1 f1 R1 j2 f2 R2 b M n) : Calls Try.prog 19 #[.pointer (some ⟨j1, 0, none⟩)] w fun e w' => ∃ x k m, e = .returned (.slice x k m) ∧ RB (Tn T w w') w' (.slice x k m) R1 ∧ Below w.heap.size w w' := by
  obtain ⟨SD, v1, v2, h1, h2, h3, h4, h5, h6, h7⟩ := h.ex
  have hrec := recs_of R1 (by have := h1.fit.bound; omega)
  refine (records_any _ SD w j1 b M f1 n (streamF R1) true v1 R1 hrec h.b1 h1).mono fun e w' ⟨x, k, m, q1, q2, q3⟩ => ⟨x, k, m, q1, ?_, q3⟩
  obtain ⟨xs, p1, p2, p3, p4⟩ := q2
  refine ⟨xs, p1, fun h0 a c d e2 => ?_, p3, fun i y l hy hl => ?_⟩
  · exact Or.inr ⟨p2 h0 a c d e2, p1.inlt h0 a c d e2⟩
  · exact (p4 i y l hy hl).lt.mono fun k hk => Or.inr hk
theorem J2.fit (h : J2 B T w j1 f1 R1 j2 f2 R2 b M n) : Fit M f1 n (streamF R1) := by
  obtain ⟨_, _, _, h1, _⟩ := h.ex
  exact h1.fit
theorem J2.read (h : J2 B T w j1 f1 R1 j2 f2 R2 b M n) (s : Nat) (hs : s < M.secs.length) : Calls Try.prog 33 #[.pointer (some ⟨b, 0, none⟩), .int .i64 s] w fun e w' => ∃ x k c, e = .returned (.tuple #[.slice x k c, .int .i64 0]) ∧ Rd w' (.slice x k c) (by8 ((flat M).secs.getD s [])) ∧ Below w.heap.size w w' := by
  obtain ⟨SD, v1, v2, h1, _⟩ := h.ex
  have hsec := h1.ok.secs
  obtain ⟨r1, r2⟩ := read_flat h.nf.1 hs
  have h9 := (IG.read (s : Int) ⟨by omega, by omega⟩ (by have := h.cch; omega) h1.dk).mono fun e w' q => q.1
  rw [r1, r2] at h9
  exact h9
end
end Go.Proofs.Ytofmijebinnejaa

/- Two journals on one disk: the marks, the openings. Bounds on sizes alone. -/
namespace Go.Proofs.Ytofmijebinnejaa
open Go.RowKit
set_option maxRecDepth 100000
set_option maxHeartbeats 3200000

def mkF (z : Nat) : List Int := (List.replicate z 0).set 0 77
theorem mkF_len (z : Nat) : (mkF z).length = z := by simp [mkF]
/-- The mark, as the law lays it. -/
theorem mark_new (w : World) (z : Nat) (hz : 1 ≤ z) (hz2 : z ≤ 1000) : ∃ W2, W2 = w.alloc (.cells ((Array.replicate z (.int .u8 0)).setIfInBounds 0 (.int .u8 77)) 5) ∧ Below w.heap.size w W2 ∧ CR (fun k => w.heap.size ≤ k ∧ k < W2.heap.size) W2 (.slice (some ⟨w.heap.size, 0, none⟩) z z) (mkF z) := by
  have e : ((Array.replicate z (Value.int .u8 0)).setIfInBounds 0 (.int .u8 77)) = (by8 (mkF z)).toArray := by
    unfold by8 mkF
    rw [List.map_set, List.map_replicate]
    apply Array.ext'
    simp
  have h2 : (w.alloc (.cells ((Array.replicate z (.int .u8 0)).setIfInBounds 0 (.int .u8 77)) 5)).heap[w.heap.size]? = some (.cells (by8 (mkF z)).toArray 5 (0, 0)) := by
    rw [heap_alloc_new w _, ← e]
  refine ⟨_, rfl, bel_alloc w _, ⟨some ⟨w.heap.size, 0, none⟩, z, by rw [by8_length, mkF_len], by rw [by8_length, mkF_len]; exact Nat.le_refl _, by omega, fun _ => ⟨_, 0, rfl, lt_of_block h2, fun i t ht => by rw [Nat.zero_add]; exact cell_blk h2 ht⟩⟩, fun _ a n c e => ?_⟩
  cases e
  exact ⟨Nat.le_refl _, lt_of_block h2⟩
theorem DR.write {B : Nat} {T : Nat → Prop} {w : World} {b : Nat} {M : DM} (h : DR B T w b M) (t : TR B T w) (s : Nat) (hs : s ≤ 100000) (hc : M.cache.length < 1000000) (bo : Option Addr) (bn bc : Nat) (l : List Int) (hin : CR T w (.slice bo bn bc) l) :
    Calls Try.prog 27 #[.pointer (some ⟨b, 0, none⟩), .int .i64 s, .slice bo bn bc] w fun e w' => e = .returned (.int .i64 (writeF M s l).1) ∧ DR B T w' b (writeF M s l).2 ∧ Below B w w' ∧ Keeps T w w' := by
  obtain ⟨SD, h1, h2⟩ := h
  exact (IG.write T (s : Int) ⟨by omega, by omega⟩ bo bn bc l hc hin (fun k hk hS => (h2 k hS).2.2 hk) h1).mono fun e w' ⟨q1, q2, q3⟩ => ⟨q1, dr_next t h2 q2 q3⟩
/-- The disk with both marks, and what its sectors hold. -/
def mk2 (n z : Nat) : DM := { newF (2 * n + 2) z with cache := [(n, mkF z), (2 * n + 1, mkF z)] }
theorem mk2_write (n z : Nat) : writeF (newF (2 * n + 2) z) (n : Nat) (mkF z) = (0, { newF (2 * n + 2) z with cache := [(n, mkF z)] }) ∧ writeF { newF (2 * n + 2) z with cache := [(n, mkF z)] } ((2 * n + 1 : Nat) : Int) (mkF z) = (0, mk2 n z) := by
  have h1 := nf_write_eq (new_nf (2 * n + 2) z) (s := n) (l := mkF z) (by rw [new_secs]; omega) (mkF_len z)
  have h2 := nf_write_eq (M := { newF (2 * n + 2) z with cache := [(n, mkF z)] }) (new_nf (2 * n + 2) z) (s := 2 * n + 1) (l := mkF z) (by show 2 * n + 1 < (newF (2 * n + 2) z).secs.length; rw [new_secs]; omega) (mkF_len z)
  exact ⟨h1, h2⟩
theorem mk2_secs (n z : Nat) : (flat (mk2 n z)).secs.getD n [] = mkF z ∧ (flat (mk2 n z)).secs.getD (2 * n + 1) [] = mkF z ∧ ∀ s, s < 2 * n + 2 → s ≠ n → s ≠ 2 * n + 1 → (flat (mk2 n z)).secs.getD s [] = List.replicate z 0 := by
  have e : (flat (mk2 n z)).secs = ((List.replicate (2 * n + 2) (List.replicate z 0)).set n (mkF z)).set (2 * n + 1) (mkF z) := rfl
  rw [e]
  refine ⟨?_, ?_, fun s h1 h2 h3 => ?_⟩
  · rw [getD_ne (by omega), getD_set (by simp; omega)]
  · rw [getD_set (by simp)]
  · rw [getD_ne (Ne.symm h3), getD_ne (Ne.symm h2)]
    simp [List.getD_eq_getElem?_getD, h1]
/-- One journal of two. -/
def J1 (B : Nat) (T : Nat → Prop) (w : World) (j1 f1 b : Nat) (M : DM) (n : Nat) : Prop := ∃ SD v1, JK (JS j1 v1 SD) SD w j1 b M f1 n (streamF []) true v1 ∧ ∀ k, JS j1 v1 SD k → B ≤ k ∧ k < w.heap.size ∧ ¬ T k
section
variable {B : Nat} {T : Nat → Prop} {w : World} {b : Nat} {M : DM} {n : Nat}
theorem DR.first (h : DR B T w b M) (t : TR B T w) (f1 : Nat) (hreg : f1 + n ≤ M.secs.length ∧ 2 ≤ n) (hz : 16 ≤ M.sz) (hn : NF M) (hc : M.cache.length ≤ 10) (h0 : ∀ s, f1 ≤ s → s < f1 + n → (flat M).secs.getD s [] = List.replicate M.sz 0) :
    Calls Try.prog 15 #[.pointer (some ⟨b, 0, none⟩), .int .i64 f1, .int .i64 n] w fun e w' => ∃ j1, e = .returned (.tuple #[.pointer (some ⟨j1, 0, none⟩), .int .i64 0]) ∧ J1 B T w' j1 f1 b M n ∧ Below w.heap.size w w' := by
  obtain ⟨SD, h1, h2⟩ := h
  obtain ⟨z1, z2, z3⟩ := zero_region (IG.ok h1) hn.1 hreg h0 hn
  refine (open_yes SD w b M f1 n h1 (fun k hk => (h2 k hk).2.1) hreg hn.1 hz z1 (by omega) [] z2).mono fun e w' ⟨jb, vs, q1, q2, q3⟩ => ⟨jb, q1, ⟨SD, vs, q2.min, fun k hk => ?_⟩, q3⟩
  have hsz := q3.size
  have hB := t.hB
  have hin : Nw SD w w' k := by
    rcases hk with rfl | hk | hk
    · exact q2.sj
    · exact (q2.si k hk).1
    · exact q2.sd k hk
  rcases hin with hk | hk
  · exact ⟨(h2 k hk).1, Nat.lt_of_lt_of_le (h2 k hk).2.1 hsz, (h2 k hk).2.2⟩
  · exact ⟨by omega, hk.2, fun ht => by have := t.lt k ht; omega⟩
theorem J1.second {j1 f1 : Nat} (h : J1 B T w j1 f1 b M n) (t : TR B T w) (f2 : Nat) (hreg1 : f1 + n ≤ M.secs.length ∧ 2 ≤ n) (hreg : f2 + n ≤ M.secs.length ∧ 2 ≤ n) (hz : 16 ≤ M.sz) (hn : NF M) (hc : M.cache.length ≤ 10) (hfar : f1 + n ≤ f2 ∨ f2 + n ≤ f1) (h01 : ∀ s, f1 ≤ s → s < f1 + n → (flat M).secs.getD s [] = List.replicate M.sz 0) (h0 : ∀ s, f2 ≤ s → s < f2 + n → (flat M).secs.getD s [] = List.replicate M.sz 0) :
    Calls Try.prog 15 #[.pointer (some ⟨b, 0, none⟩), .int .i64 f2, .int .i64 n] w fun e w' => ∃ j2, e = .returned (.tuple #[.pointer (some ⟨j2, 0, none⟩), .int .i64 0]) ∧ J2 B T w' j1 f1 [] j2 f2 [] b M n ∧ Below w.heap.size w w' := by
  obtain ⟨SD, v1, h1, h2⟩ := h
  obtain ⟨z1, z2, z3⟩ := zero_region h1.ok hn.1 hreg h0 hn
  obtain ⟨y1, y2, y3⟩ := zero_region h1.ok hn.1 hreg1 h01 hn
  refine (open_yes SD w b M f2 n h1.dk (fun k hk => (h2 k (Or.inr (Or.inr hk))).2.1) hreg hn.1 hz z1 (by omega) [] z2).mono fun e w' ⟨j2, v2, q1, q2, q3⟩ => ⟨j2, q1, ?_, q3⟩
  have hsz := q3.size
  have hB := t.hB
  have nw : ∀ k, (k = j2 ∨ v2.ownBlock = some k) → w.heap.size ≤ k ∧ k < w'.heap.size := fun k hk => by
    have hin : Nw SD w w' k ∧ ¬ SD k := by
      rcases hk with rfl | hk
      · exact ⟨q2.sj, q2.nj⟩
      · exact ⟨(q2.si k hk).1, (q2.si k hk).2.2⟩
    rcases hin.1 with h9 | h9
    · exact absurd h9 hin.2
    · exact h9
  have old : ∀ k, JS j1 v1 SD k → k < w.heap.size := fun k hk => (h2 k hk).2.1
  refine ⟨⟨SD, v1, v2, h1.keep ⟨q3.size, fun k _ hl => q3.block k hl⟩, q2.min, fun e => ?_, fun e => ?_, fun e => ?_, fun k hk e => ?_, fun k hk => ?_⟩, y3, z3, hn, hc, hfar, fun x hx => by simp [streamF] at hx, fun x hx => by simp [streamF] at hx⟩
  · have h8 := nw j2 (Or.inl rfl)
    have h9 := old j1 (Or.inl rfl)
    omega
  · have h8 := nw j2 (Or.inl rfl)
    have h9 := old j2 (Or.inr (Or.inl e))
    omega
  · have h8 := nw j1 (Or.inr e)
    have h9 := old j1 (Or.inl rfl)
    omega
  · have h8 := nw k (Or.inr e)
    have h9 := old k (Or.inr (Or.inl hk))
    omega
  · rcases hk with hk | hk
    · have := h2 k hk; exact ⟨this.1, Nat.lt_of_lt_of_le this.2.1 hsz, this.2.2⟩
    · have hnew : (k = j2 ∨ v2.ownBlock = some k) → B ≤ k ∧ k < w'.heap.size ∧ ¬ T k := fun h9 => by
        have h8 := nw k h9
        exact ⟨by omega, h8.2, fun ht => by have := t.lt k ht; omega⟩
      rcases hk with hk | hk | hk
      · exact hnew (Or.inl hk)
      · exact hnew (Or.inr hk)
      · have := h2 k (Or.inr (Or.inr hk)); exact ⟨this.1, Nat.lt_of_lt_of_le this.2.1 hsz, this.2.2⟩
end
end Go.Proofs.Ytofmijebinnejaa

/- The reference's raw: a number at a place. Bounds on sizes alone. -/
namespace Go.Proofs.Ytofmijebinnejaa
open Go.RowKit
set_option maxRecDepth 100000

theorem bs_cells (l : List Int) : ∀ u ∈ Wr.bs l, u.oneCell' = true := by8_cells l
theorem bs_len (l : List Int) : (Wr.bs l).length = l.length := by simp [Wr.bs]
def rawRes (a : Nat) : Option (Nat × Nat) → Value
  | some (n, k) => .tuple #[.int .u64 n, .int .i64 ((a + k : Nat) : Int), .bool true]
  | none => .tuple #[.int .u64 0, .int .i64 a, .bool false]
theorem pow27r (i : Nat) : (2 : Int) ^ (7 * i) = ((128 ^ i : Nat) : Int) := by
  rw [Int.pow_mul]
  push_cast
  rfl
theorem grp_raw (acc z i : Nat) (hi : i ≤ 8 ∨ i = 9 ∧ z ≤ 1) (ha : acc < 128 ^ i) : IntKind.u64.wrap ((acc : Int) + IntKind.u64.wrap ((z : Int) % 128 * 2 ^ (7 * i))) = ((acc + z % 128 * 128 ^ i : Nat) : Int) ∧ (i ≤ 8 → acc + z % 128 * 128 ^ i < 128 ^ (i + 1)) := by
  rw [pow27r]
  have e : (z : Int) % 128 * ((128 ^ i : Nat) : Int) = ((z % 128 * 128 ^ i : Nat) : Int) := by push_cast; rfl
  rw [e, IntKind.wrap_u64, IntKind.wrap_u64]
  rcases hi with hi | ⟨rfl, hz⟩
  · have h1 := Wr.pow_le9 i (by omega)
    have h2 : z % 128 * 128 ^ i + 128 ^ i ≤ 128 ^ (i + 1) := by
      rw [Nat.pow_succ, ← Nat.succ_mul, Nat.mul_comm (128 ^ i)]
      exact Nat.mul_le_mul_right _ (by omega)
    exact ⟨by omega, fun _ => by omega⟩
  · have h9 : (128 : Nat) ^ 9 = 9223372036854775808 := by decide
    rw [h9] at ha ⊢
    exact ⟨by omega, fun h => by omega⟩
theorem raw_step {d : List Int} {i acc j z : Nat} (hi : i < 10) (hz : d[j]? = some (z : Int)) : Wr.decAt (10 - i) i acc (d.drop j) = if 128 ≤ (z : Int) then Wr.decAt (10 - (i + 1)) (i + 1) (acc + ((z : Int) - 128).toNat * 128 ^ i) (d.drop (j + 1)) else if Wr.mayEnd i z then some (acc + (z : Int).toNat * 128 ^ i, i + 1) else none := by
  obtain ⟨hj, e⟩ := List.getElem?_eq_some_iff.1 hz
  rw [List.drop_eq_getElem_cons hj, e, show 10 - i = (10 - (i + 1)) + 1 by omega]
  rfl
theorem ret_raw {n m : Int} {k j : Int} (h1 : n = m) (h2 : k = j) : Ending.returned (.tuple #[.int .u64 n, .int .i64 k, .bool true]) = Ending.returned (.tuple #[.int .u64 m, .int .i64 j, .bool true]) := by rw [h1, h2]
theorem bs_open {w : World} {ao : Option Addr} {n cap : Nat} {d : List Int} (h : Rd w (.slice ao n cap) (Wr.bs d)) : d.length = n ∧ n ≤ cap ∧ (0 < n → ∃ g o, ao = some ⟨g, o, none⟩ ∧ g < w.heap.size ∧ ∀ j y, d[j]? = some y → w.cell? ⟨g, o + j, none⟩ = some (.int .u8 y)) := by
  obtain ⟨ao', cap', e, h2, h3, h4⟩ := h
  simp only [Value.slice.injEq] at e
  obtain ⟨rfl, e2, rfl⟩ := e
  rw [bs_len] at e2 h2 h4
  subst e2
  refine ⟨rfl, h2, fun h0 => ?_⟩
  obtain ⟨g, o, r1, r2, r3⟩ := h4 h0
  exact ⟨g, o, r1, r2, fun j y hy => r3 j _ (by simp [Wr.bs, hy])⟩
set_option maxHeartbeats 3200000 in
theorem raw_any (ao : Option Addr) (n cap : Nat) (d : List Int) (a : Nat) (w : World) (h : Rd w (.slice ao n cap) (Wr.bs d)) (hr : ∀ y ∈ d, 0 ≤ y ∧ y ≤ 255) (hn : n ≤ 140737488351232) (ha : a ≤ n) :
    Calls Try.prog 69 #[.slice ao n cap, .int .i64 a] w fun e w' => e = .returned (rawRes a (Wr.dec (d.drop a))) ∧ Below w.heap.size w w' := by
  obtain ⟨R, hR⟩ : ∃ R, R = Wr.dec (d.drop a) := ⟨_, rfl⟩
  rw [← hR]
  have HR := hid_of hR
  obtain ⟨hdl, hcap, hop⟩ := bs_open h
  have HD := hid_of hop
  have HRR := hid_of hr
  have HN := hid_of hdl
  clear h hr hR hdl hop
  go_enter Try.func69, Try.ntmps69
  go_wp2
  go_loopw [4, 5, 6, 7, 8] (fun nv ev kv iv xv wr => ∃ (i acc : Nat) (e5 e6 x8 : Value), ev = e5 ∧ kv = e6 ∧ xv = x8 ∧ i ≤ 10 ∧ iv = .int .i64 i ∧ nv = .int .u64 acc ∧ a + i ≤ n ∧ Hid ((i ≤ 9 → acc < 128 ^ i) ∧ R = Wr.decAt (10 - i) i acc (d.drop (a + i))) ∧ Hid (Below w.heap.size w wr)) (fun _ _ _ iv _ _ => 10 - (intOf iv).toNat)
  case atStart => exact ⟨0, 0, _, _, _, rfl, rfl, rfl, by omega, rfl, rfl, ha, hid_of ⟨fun _ => by simp, HR.out⟩, hid_of (Below.refl _ _)⟩
  case round =>
    obtain ⟨i, acc, e5, e6, x8, rfl, rfl, rfl, hi, rfl, rfl, hai, hp, hb⟩ := hrel
    have HP := hid_of hp.out
    have HB := hid_of hb.out
    clear hp hb
    have aw : IntKind.i64.wrap ((a : Int) + (i : Int)) = (a : Int) + (i : Int) := IntWalk.i64_in _ (by omega)
    by_cases h8 : i < 10
    · by_cases hlt : a + i < n
      · obtain ⟨g, o, rfl, hg, hc⟩ := HD.out (by omega)
        obtain ⟨y, hy⟩ : ∃ y, d[a + i]? = some y := ⟨_, List.getElem?_eq_getElem (by have := HN.out; omega)⟩
        have c1 := (HB.out.cell (p := ⟨g, o + (a + i), none⟩) hg).trans (hc (a + i) y hy)
        have hyr := HRR.out y (List.mem_of_getElem? hy)
        obtain ⟨z, rfl⟩ : ∃ z : Nat, y = z := ⟨y.toNat, by omega⟩
        have b1 : (a : Int) + (i : Int) < (n : Int) := by omega
        have b0 : (0 : Int) ≤ (a : Int) + (i : Int) := by omega
        have db1 : decide ((a : Int) + (i : Int) < (n : Int)) = true := by simp; omega
        have hz : z ≤ 255 := by omega
        have ST := hid_of (HP.out.2.trans (raw_step h8 hy))
        by_cases h9 : i = 9 ∧ 1 < z
        · have d9 : ((i : Int) == 9) = true := by simp; omega
          have d91 : decide ((z : Int) > 1) = true := by simp; omega
          have HE : Hid (R = none) := hid_of (by
            rw [ST.out]
            obtain ⟨rfl, hz1⟩ := h9
            split
            · rfl
            · rw [if_neg (by unfold Wr.mayEnd; simp; omega)])
          clear hc hy h9
          go_wp2
          refine bodyPost_ret (results_tmp3 rfl _ _ _) rfl ⟨by rw [HE.out]; rfl, HB.out⟩
        · obtain ⟨nv, hnv⟩ : ∃ nv, nv = acc + z % 128 * 128 ^ i := ⟨_, rfl⟩
          have GV := grp_raw acc z i (by omega) (HP.out.1 (by omega))
          rw [← hnv] at GV
          obtain ⟨av, hlt2⟩ := GV
          have NV := hid_of hnv
          have HL2 := hid_of hlt2
          have d9 : (((i : Int) == 9) = false) ∨ (((i : Int) == 9) = true ∧ decide ((z : Int) > 1) = false) := by
            by_cases h : i = 9
            · exact .inr ⟨by simp; omega, by simp; omega⟩
            · exact .inl (by simp; omega)
          clear hc hnv hlt2 hy
          by_cases hz1 : z < 128
          · have dz : decide ((z : Int) < 128) = true := by simp; omega
            have EV : Hid (nv = acc + (z : Int).toNat * 128 ^ i) := hid_of (by rw [NV.out, Nat.mod_eq_of_lt hz1]; rfl)
            have hcase : (i = 0) ∨ (0 < i ∧ z = 0) ∨ (0 < i ∧ z ≠ 0) := by omega
            rcases hcase with hi0 | ⟨hi0, hz0⟩ | ⟨hi0, hz0⟩
            · have HE : Hid (R = some (nv, i + 1)) := hid_of (by
                rw [ST.out, if_neg (by omega), if_pos (by unfold Wr.mayEnd; simp [hi0]), EV.out])
              have di : decide (0 < i) = false := by simp; omega
              clear hi0
              rcases d9 with d9 | ⟨d9, d91⟩
              all_goals
                go_wp2
                all_goals refine bodyPost_ret (results_tmp3 rfl _ _ _) rfl ⟨by rw [HE.out]; exact ret_raw rfl (by push_cast; omega), HB.out⟩
            · have HE : Hid (R = none) := hid_of (by
                rw [ST.out, if_neg (by omega), if_neg (by unfold Wr.mayEnd; simp [hz0]; omega)])
              have di : decide (0 < i) = true := by simp; omega
              have dz0 : ((z : Int) == 0) = true := by simp; omega
              clear hz0
              rcases d9 with d9 | ⟨d9, d91⟩
              all_goals
                go_wp2
                all_goals refine bodyPost_ret (results_tmp3 rfl _ _ _) rfl ⟨by rw [HE.out]; rfl, HB.out⟩
            · have HE : Hid (R = some (nv, i + 1)) := hid_of (by
                rw [ST.out, if_neg (by omega), if_pos (by unfold Wr.mayEnd; simp [hz0]; omega), EV.out])
              have di : decide (0 < i) = true := by simp; omega
              have dz0 : ((z : Int) == 0) = false := by simp; omega
              clear hz0
              rcases d9 with d9 | ⟨d9, d91⟩
              all_goals
                go_wp2
                all_goals refine bodyPost_ret (results_tmp3 rfl _ _ _) rfl ⟨by rw [HE.out]; exact ret_raw rfl (by push_cast; omega), HB.out⟩
          · have dz : decide ((z : Int) < 128) = false := by simp; omega
            have d9' : ((i : Int) == 9) = false := by simp; omega
            have HE : Hid (R = Wr.decAt (10 - (i + 1)) (i + 1) nv (d.drop (a + (i + 1)))) := hid_of (by
              rw [ST.out, if_pos (by omega), NV.out, show ((z : Int) - 128).toNat = z % 128 by omega]
              rfl)
            have hi8 : i ≤ 8 := by omega
            clear hz1 d9
            go_wp2
            go_roundw
            case rel => exact ⟨i + 1, nv, _, _, _, rfl, rfl, rfl, by omega, by go_num, rfl, by omega, hid_of ⟨fun _ => HL2.out hi8, HE.out⟩, HB⟩
            case measure => simp [intOf]; omega
      · have hEq : a + i = n := by omega
        have HE : Hid (R = none) := hid_of (by
          rw [HP.out.2, List.drop_of_length_le (by have := HN.out; omega), show 10 - i = (9 - i) + 1 by omega]
          rfl)
        have b1 : ¬ (a : Int) + (i : Int) < (n : Int) := by omega
        have db : decide ((a : Int) + (i : Int) < (n : Int)) = false := by simp; omega
        go_wp2
        refine bodyPost_ret (results_tmp3 rfl _ _ _) rfl ⟨by rw [HE.out]; rfl, HB.out⟩
    · obtain rfl : i = 10 := by omega
      have HE : Hid (R = none) := hid_of (by rw [HP.out.2]; rfl)
      go_wp2
      refine bodyPost_ret (results_tmp3 rfl _ _ _) rfl ⟨by rw [HE.out]; rfl, HB.out⟩
end Go.Proofs.Ytofmijebinnejaa

/- The reference's In, at an offset or bad: every read as a function of this state, the program's own. Bounds on sizes alone. -/
namespace Go.Proofs.Ytofmijebinnejaa
open Go.RowKit
set_option maxRecDepth 100000
set_option maxHeartbeats 3200000

theorem undrew {w w' : World} (h : Below w.drew.heap.size w.drew w') : Below w.heap.size w w' := ⟨h.os, h.tape, h.output, h.size, h.block⟩
/-- The In in block b over a slice that reads as d. -/
structure Ib (w : World) (b : Nat) (ao : Option Addr) (n cap : Nat) (d : List Int) (v1 v2 v3 : Value) : Prop where
  blk : w.heap[b]? = some (.cells [.slice ao n cap, v1, v2, v3].toArray 85 (0, 0))
  rd : Rd w (.slice ao n cap) (Wr.bs d)
  ne : 0 < d.length → In (fun k => k < b) (.slice ao n cap)
  rng : ∀ y ∈ d, 0 ≤ y ∧ y ≤ 255
  small : n ≤ 140737488351232
section
variable {w w2 : World} {b : Nat} {ao : Option Addr} {n cap : Nat} {d : List Int} {v1 v2 v3 : Value}
theorem Ib.bel (h : Ib w b ao n cap d v1 v2 v3) (hb : Below w.heap.size w w2) : Ib w2 b ao n cap d v1 v2 v3 :=
  ⟨(hb.block _ (lt_of_block h.blk)).trans h.blk, h.rd.at hb, h.ne, h.rng, h.small⟩
theorem rd_keepB {v : Value} {l : List Value} (h : Rd w v l) (hB : 0 < l.length → In (fun k => k ≠ b) v) (hs : w.heap.size ≤ w2.heap.size) (hk : ∀ k, k ≠ b → k < w.heap.size → w2.heap[k]? = w.heap[k]?) : Rd w2 v l := by
  obtain ⟨ao, cap, e, h2, h3, h4⟩ := h
  refine ⟨ao, cap, e, h2, h3, fun h0 => ?_⟩
  obtain ⟨g, o, rfl, hg, hc⟩ := h4 h0
  have hb := hk g (hB h0 _ _ _ e) hg
  exact ⟨g, o, rfl, by omega, fun i t ht => (World.cell?_of_block (w := w) hb).trans (hc i t ht)⟩
theorem Ib.set (h : Ib w b ao n cap d v1 v2 v3) (j : Nat) (v : Value) {y1 y2 y3 : Value} (e : [.slice ao n cap, v1, v2, v3].set j v = [.slice ao n cap, y1, y2, y3]) : Ib (w.setCell ⟨b, j, none⟩ v) b ao n cap d y1 y2 y3 :=
  ⟨by rw [← e]; exact Go.Proofs.Ytofmijebinnejaa.blk_setCell (k := j) h.blk, rd_keepB h.rd (fun h0 a n c e => Nat.ne_of_lt (h.ne (by simpa [Wr.bs] using h0) a n c e)) (by simp) (fun k hk _ => set_blk (fun e => hk e.symm)), h.ne, h.rng, h.small⟩
theorem Ib.up {B : Nat} (h : Ib w b ao n cap d v1 v2 v3) (hb : Below B w w2) (hB : b < B) : Ib w2 b ao n cap d v1 v2 v3 := by
  refine ⟨(hb.block _ hB).trans h.blk, ?_, h.ne, h.rng, h.small⟩
  obtain ⟨a0, c0, e, h2, h3, h4⟩ := h.rd
  refine ⟨a0, c0, e, h2, h3, fun h0 => ?_⟩
  obtain ⟨g, o, rfl, hg, hc⟩ := h4 h0
  have hb2 := hb.block g (by have := h.ne (by simpa [Wr.bs] using h0) _ _ _ e; simp only at this; omega)
  have := hb.size
  exact ⟨g, o, rfl, by omega, fun i t ht => (World.cell?_of_block (w := w) hb2).trans (hc i t ht)⟩
theorem Ib.cells (h : Ib w b ao n cap d v1 v2 v3) : w.cell? ⟨b, 0, none⟩ = some (.slice ao n cap) ∧ w.cell? ⟨b, 1, none⟩ = some v1 ∧ w.cell? ⟨b, 2, none⟩ = some v2 ∧ w.cell? ⟨b, 3, none⟩ = some v3 :=
  ⟨cell_blk h.blk rfl, cell_blk h.blk rfl, cell_blk h.blk rfl, cell_blk h.blk rfl⟩
theorem Ib.free (h : Ib w b ao n cap d v1 v2 v3) (j : Nat) : w.frozen? ⟨b, j, none⟩ = false := fr_blk h.blk j
theorem kept_set (w : World) (b j : Nat) (v : Value) : Wr.Kept (fun k => k = b) w (w.setCell ⟨b, j, none⟩ v) := Wr.Kept.setCell (S := fun k => k = b) (Wr.Kept.refl _ _) (p := ⟨b, j, none⟩) rfl v
theorem kept_trans {S : Nat → Prop} {a c e : World} (h : Wr.Kept S a c) (k : Wr.Kept S c e) : Wr.Kept S a e :=
  ⟨k.os.trans h.os, k.tape.trans h.tape, k.output.trans h.output, Nat.le_trans h.size k.size, fun x hx hn => (k.block x (Nat.lt_of_lt_of_le hx h.size) hn).trans (h.block x hx hn)⟩
theorem kept_bel {S : Nat → Prop} {a c : World} (h : Below a.heap.size a c) : Wr.Kept S a c := ⟨h.os, h.tape, h.output, h.size, fun x hx _ => h.block x hx⟩
end
/-- The In in block b: at an offset, or bad. -/
def IS (w : World) (b : Nat) (ao : Option Addr) (n cap : Nat) (d : List Int) : Option Nat → Prop
  | some off => ∃ last : Int, off ≤ n ∧ Ib w b ao n cap d (.int .i64 off) (.int .i64 last) (.bool false)
  | none => ∃ v1 v2 : Int, Ib w b ao n cap d (.int .i64 v1) (.int .i64 v2) (.bool true)
theorem IS.up {w w2 : World} {b : Nat} {ao : Option Addr} {n cap : Nat} {d : List Int} {s : Option Nat} {B : Nat} (h : IS w b ao n cap d s) (hb : Below B w w2) (hB : b < B) : IS w2 b ao n cap d s := by
  cases s with
  | none => obtain ⟨x1, x2, h⟩ := h; exact ⟨x1, x2, h.up hb hB⟩
  | some off => obtain ⟨x, ho, h⟩ := h; exact ⟨x, ho, h.up hb hB⟩
theorem IS.bad {w : World} {b : Nat} {ao : Option Addr} {n cap : Nat} {d : List Int} {s : Option Nat} (h : IS w b ao n cap d s) : w.cell? ⟨b, 3, none⟩ = some (.bool s.isNone) ∧ b < w.heap.size ∧ n ≤ 140737488351232 ∧ d.length = n := by
  cases s with
  | none => obtain ⟨x1, x2, h⟩ := h; exact ⟨h.cells.2.2.2, lt_of_block h.blk, h.small, (bs_open h.rd).1⟩
  | some off => obtain ⟨x, ho, h⟩ := h; exact ⟨h.cells.2.2.2, lt_of_block h.blk, h.small, (bs_open h.rd).1⟩
/-- A step of the In. -/
def IT (w w' : World) (b : Nat) (ao : Option Addr) (n cap : Nat) (d : List Int) (s : Option Nat) : Prop := IS w' b ao n cap d s ∧ Wr.Kept (fun k => k = b) w w'
theorem dec_le {d : List Int} {off m k n : Nat} (hr : ∀ y ∈ d, 0 ≤ y ∧ y ≤ 255) (hl : d.length = n) (ho : off ≤ n) (h : Wr.dec (d.drop off) = some (m, k)) : off + k ≤ n ∧ m < 18446744073709551616 := by
  have := Wr.decl_bound (fun y hy => hr y (List.mem_of_mem_drop hy)) h
  rw [List.length_drop] at this
  omega
section
variable (w : World) (b : Nat) (ao : Option Addr) (n cap : Nat) (d : List Int)
theorem iu_any (s : Option Nat) (h : IS w b ao n cap d s) : Calls Try.prog 46 #[.pointer (some ⟨b, 0, none⟩)] w fun e w' => e = .returned (.int .u64 (Wr.uR d s).1) ∧ IT w w' b ao n cap d (Wr.uR d s).2 := by
  cases s with
  | none =>
    obtain ⟨x1, x2, h⟩ := h
    obtain ⟨c0, c1, c2, c3⟩ := h.cells
    have H := hid_of h
    clear h
    go_enter Try.func46, Try.ntmps46
    go_wp2
    go_ret
    exact ⟨rfl, ⟨x1, x2, H.out⟩, Wr.Kept.refl _ _⟩
  | some off =>
    obtain ⟨last, ho, h⟩ := h
    obtain ⟨c0, c1, c2, c3⟩ := h.cells
    have f2 := h.free 2
    have H1 := hid_of (h.set 2 (.int .i64 off) rfl)
    have K1 := hid_of (kept_set w b 2 (.int .i64 off))
    obtain ⟨W, hW⟩ : ∃ W, W = w.setCell ⟨b, 2, none⟩ (.int .i64 off) := ⟨_, rfl⟩
    rw [← hW] at H1 K1
    have HW := hid_of hW.symm
    have hdl := (bs_open h.rd).1
    have HRG := hid_of h.rng
    have RW := hid_of (raw_any ao n cap d off W.drew ((H1.out.bel (Below.refl _ _).drew).rd) h.rng h.small ho)
    have HKS : Hid (∀ X, Below W.heap.size W X → X.cell? ⟨b, 0, none⟩ = some (.slice ao n cap) ∧ X.cell? ⟨b, 1, none⟩ = some (.int .i64 off)) := hid_of (fun X hX => ⟨((H1.out.bel hX).cells).1, ((H1.out.bel hX).cells).2.1⟩)
    have B1 : Hid (Below W.heap.size W W.drew) := hid_of (Below.refl _ _).drew
    cases hd : Wr.dec (d.drop off) with
    | none =>
      have e1 : Wr.uR d (some off) = (0, none) := by simp only [Wr.uR, hd]
      rw [hd] at RW
      have RW : Hid (Calls Try.prog 69 #[.slice ao n cap, .int .i64 off] W.drew fun e w' => e = .returned (.tuple #[.int .u64 0, .int .i64 off, .bool false]) ∧ Below W.drew.heap.size W.drew w') := RW
      rw [e1]
      clear h hW hd e1 hdl
      go_enter Try.func46, Try.ntmps46
      go_wp2
      rw [HW.out]
      go_region_held3 (fun X => X.cell? ⟨b, 0, none⟩ = some (.slice ao n cap) ∧ X.cell? ⟨b, 1, none⟩ = some (.int .i64 off)) (exact HKS.out _ (Hid.out (by with_reducible assumption))) (first
        | (go_at_call 69; ((with_reducible refine (RW.out).mono ?_); (rintro e w3 ⟨rfl, q1⟩)); have B3 : Hid (Below W.heap.size W w3) := hid_of (undrew q1); clear q1; have I3 := hid_of (H1.out.bel B3.out); obtain ⟨k0, k1, k2, k3⟩ := I3.out.cells; have f3 := I3.out.free 3; have I4 := hid_of (I3.out.set 3 (.bool true) rfl)))
      all_goals go_wp2
      all_goals go_ret
      all_goals exact ⟨rfl, ⟨_, _, I4.out⟩, kept_trans K1.out (kept_trans (kept_bel B3.out) (kept_set _ _ _ _))⟩
    | some x =>
      obtain ⟨m, k⟩ := x
      have e1 : Wr.uR d (some off) = (m, some (off + k)) := by simp only [Wr.uR, hd]
      obtain ⟨l1, l2⟩ := dec_le h.rng hdl ho hd
      rw [hd] at RW
      have RW : Hid (Calls Try.prog 69 #[.slice ao n cap, .int .i64 off] W.drew fun e w' => e = .returned (.tuple #[.int .u64 m, .int .i64 ((off + k : Nat) : Int), .bool true]) ∧ Below W.drew.heap.size W.drew w') := RW
      rw [e1]
      clear h hW hd e1 hdl
      go_enter Try.func46, Try.ntmps46
      go_wp2
      rw [HW.out]
      go_region_held3 (fun X => X.cell? ⟨b, 0, none⟩ = some (.slice ao n cap) ∧ X.cell? ⟨b, 1, none⟩ = some (.int .i64 off)) (exact HKS.out _ (Hid.out (by with_reducible assumption))) (first
        | (go_at_call 69; ((with_reducible refine (RW.out).mono ?_); (rintro e w3 ⟨rfl, q1⟩)); have B3 : Hid (Below W.heap.size W w3) := hid_of (undrew q1); clear q1; have I3 := hid_of (H1.out.bel B3.out); obtain ⟨k0, k1, k2, k3⟩ := I3.out.cells; have f1 := I3.out.free 1; have I4 := hid_of (I3.out.set 1 (.int .i64 ((off + k : Nat) : Int)) rfl)))
      all_goals go_wp2
      all_goals go_ret
      all_goals exact ⟨rfl, ⟨_, l1, I4.out⟩, kept_trans K1.out (kept_trans (kept_bel B3.out) (kept_set _ _ _ _))⟩
end
end Go.Proofs.Ytofmijebinnejaa

/- The reference's In: Bytes, Text, End. Bounds on sizes alone. -/
namespace Go.Proofs.Ytofmijebinnejaa
open Go.RowKit
set_option maxRecDepth 100000
set_option maxHeartbeats 3200000

theorem conv_rdq {W : World} {a : Option Addr} {n c : Nat} {L : List Int} (h : Rd W (.slice a n c) (Wr.bs L)) : (convert 46 9 (.slice a n c)).run Try.prog W = .ok (.string (strOfNums L)) W := by
  obtain ⟨ao, cap, e, h2, h3, h4⟩ := h
  simp only [Value.slice.injEq] at e
  obtain ⟨rfl, rfl, rfl⟩ := e
  rw [bs_len] at h4 ⊢
  refine Wr.run_str W 46 9 5 Try.underlying46 Try.underlying5 Try.underlying9 a L c fun h0 => ?_
  obtain ⟨g, o, rfl, hg, hc⟩ := h4 h0
  refine ⟨_, rfl, fun j v hv => ?_⟩
  rw [Addr.add_mid]
  exact hc j v hv
theorem rd_none (w : World) : Rd w (.slice none 0 0) (Wr.bs []) := ⟨none, 0, rfl, Nat.le_refl _, by omega, fun h => by simp [Wr.bs] at h⟩
theorem lh_rule (g o len cap l h : Nat) (h1 : l ≤ h) (h2 : h ≤ cap) : ∃ A, (∀ wx, (Instr.slice 46 (.slice (some ⟨g, o, none⟩) len cap) (some (.int .i64 (l : Int))) (some (.int .i64 (h : Int))) none).run Try.prog wx = .ok (.slice A (h - l) (cap - l)) wx) ∧ (l < cap → A = some ⟨g, o + l, none⟩) := by
  obtain ⟨i0, hi, hz0, hz1, hz2⟩ := info_parts u8E.info
  have he : Try.prog.elem 46 = 5 := by kernel_rfl
  have ht : Try.prog.underlying 46 = some (.slice (Try.prog.elem 46)) := by rw [he]; exact Try.underlying46
  have hsz : ∀ wx, (sizeOf (Try.prog.elem 46)).run Try.prog wx = .ok 1 wx := fun wx => by
    rw [he]
    simp [sizeOf, typeInfo, hi, hz1]
  refine ⟨if cap = l then some ⟨g, o, none⟩ else (some (⟨g, o, none⟩ : Addr)).map (·.add (l * 1)), fun wx => ?_, fun hc => ?_⟩
  · rw [run_slice_lh (t := 46) (ht := ht) (h0 := by omega) (h1 := by omega) (h2 := by omega), hsz]
    rfl
  · rw [if_neg (by omega), Option.map_some, Addr.add_mid, Nat.mul_one]
theorem bs_part {W : World} {g o n cap l m : Nat} {d : List Int} {A : Option Addr} (h : Rd W (.slice (some ⟨g, o, none⟩) n cap) (Wr.bs d)) (hm : l + m ≤ n) (hA : l < cap → A = some ⟨g, o + l, none⟩) : Rd W (.slice A m (cap - l)) (Wr.bs ((d.drop l).take m)) := by
  obtain ⟨e1, e2, e3⟩ := bs_open h
  have hl : ((d.drop l).take m).length = m := by rw [List.length_take, List.length_drop]; omega
  obtain ⟨_, cc, ec, hc1, hc2, _⟩ := h
  simp only [Value.slice.injEq] at ec
  obtain ⟨_, _, rfl⟩ := ec
  refine ⟨A, cap - l, by rw [bs_len, hl], by rw [bs_len, hl]; omega, by omega, fun h0 => ?_⟩
  rw [bs_len, hl] at h0
  obtain ⟨g', o', e4, hg, hc⟩ := e3 (by omega)
  cases e4
  refine ⟨g, o + l, hA (by omega), hg, fun i t ht => ?_⟩
  simp only [Wr.bs, List.getElem?_map, List.getElem?_take, List.getElem?_drop] at ht
  split at ht
  · cases hdl : d[l + i]? with
    | none => rw [hdl] at ht; cases ht
    | some y =>
      rw [hdl] at ht
      cases ht
      have := hc (l + i) y hdl
      rw [← Nat.add_assoc] at this
      exact this
  · cases ht
theorem eown_new (w : World) : (w.alloc (.cells #[] 5)).ownsRow w.heap.size 5 1 (.slice (some ⟨w.heap.size, 0, none⟩) 0 0) 0 [] := (ow_empty 5 w).own
theorem bel_drA (w : World) (o : Obj) : Below w.heap.size w (w.alloc o) := bel_alloc w o
theorem src_part {W : World} {v : Value} {m : Nat} {Q : List Int} (_ : Elem Try.prog 46 5 (.int .u8 0) 1) (h : Rd W v (Wr.bs Q)) (hl : Q.length = m) : Src Try.prog 1 46 v m (Wr.bs Q) W := by
  have h1 := h.srcs u8E (bs_cells Q)
  rwa [bs_len, hl] at h1
theorem by_fin {w W4 W6 w5 : World} {b n cap l m : Nat} {ao : Option Addr} {d Q : List Int} {v v2 : Int} {ao5 : Option Addr} {cap5 : Nat} {v0 : Value} (I4 : Ib W4 b ao n cap d (.int .i64 v) (.int .i64 v2) (.bool false)) (B6 : Below W4.heap.size W4 W6) (O6 : W6.ownsRow W4.heap.size 5 1 v0 0 []) (G5 : GA W4.heap.size 5 1 W6 w5 v0 (.slice ao5 (0 + m) cap5) (0 + m) ([] ++ Wr.bs Q)) (K4 : Wr.Kept (fun k => k = b) w W4) (hq : Q.length = m) (hl : v = ((l : Nat) : Int) ∧ l ≤ n) (hm : m ≤ 140737488351232) :
    ∃ x k c, Ending.returned (.slice ao5 (0 + m) cap5) = .returned (.slice x k c) ∧ Rd w5 (.slice x k c) (Wr.bs Q) ∧ (0 < k → In (fun q => w.heap.size ≤ q) (.slice x k c)) ∧ IT w w5 b ao n cap d (some l) := by
  have hB : Below W4.heap.size W4 w5 := B6.trans ((ga_bel G5 O6 B6.size).mono (Nat.le_refl _))
  have hown := G5.own
  rw [List.nil_append, Nat.zero_add] at hown
  refine ⟨_, _, _, rfl, ?_, fun h0 a n c e => ?_, ⟨v2, hl.2, by rw [← hl.1]; exact I4.bel hB⟩, kept_trans K4 (kept_bel hB)⟩
  case refine_2 =>
    rcases hown.2 with ⟨h1, _⟩ | ⟨g, c9, cur, h1, hb, _⟩
    · rw [Nat.zero_add] at e
      rw [h1] at e
      cases e
    · rw [Nat.zero_add] at e
      rw [h1] at e
      cases e
      exact Nat.le_trans K4.size hb
  rw [Nat.zero_add]
  exact (show Ow 5 W4.heap.size w5 w5 (.slice ao5 m cap5) (Wr.bs Q) from ⟨hB.size, Below.refl _ _, by rw [bs_len, hq]; exact hown⟩).rd (by rw [bs_len, hq]; omega)
section
variable (w : World) (b : Nat) (ao : Option Addr) (n cap : Nat) (d : List Int)
theorem ib_any (s : Option Nat) (h : IS w b ao n cap d s) : Calls Try.prog 48 #[.pointer (some ⟨b, 0, none⟩)] w fun e w' => ∃ x k c, e = .returned (.slice x k c) ∧ Rd w' (.slice x k c) (Wr.bs (Wr.tR d s).1) ∧ (0 < k → In (fun q => w.heap.size ≤ q) (.slice x k c)) ∧ IT w w' b ao n cap d (Wr.tR d s).2 := by
  cases s with
  | none =>
    obtain ⟨x1, x2, h⟩ := h
    obtain ⟨c0, c1, c2, c3⟩ := h.cells
    have H := hid_of h
    clear h
    go_enter Try.func48, Try.ntmps48
    go_wp2
    go_ret
    exact ⟨none, 0, 0, rfl, rd_none _, (fun h9 => absurd h9 (by omega)), ⟨x1, x2, H.out⟩, Wr.Kept.refl _ _⟩
  | some off =>
    obtain ⟨last, ho, h⟩ := h
    obtain ⟨c0, c1, c2, c3⟩ := h.cells
    have f2 := h.free 2
    have H1 := hid_of (h.set 2 (.int .i64 off) rfl)
    have K1 := hid_of (kept_set w b 2 (.int .i64 off))
    obtain ⟨W, hW⟩ : ∃ W, W = w.setCell ⟨b, 2, none⟩ (.int .i64 off) := ⟨_, rfl⟩
    rw [← hW] at H1 K1
    have HW := hid_of hW.symm
    have hdl := (bs_open h.rd).1
    have HRG := hid_of h.rng
    have RW := hid_of (raw_any ao n cap d off W.drew ((H1.out.bel (Below.refl _ _).drew).rd) h.rng h.small ho)
    have HKS : Hid (∀ X, Below W.heap.size W X → X.cell? ⟨b, 0, none⟩ = some (.slice ao n cap) ∧ X.cell? ⟨b, 1, none⟩ = some (.int .i64 off)) := hid_of (fun X hX => ⟨((H1.out.bel hX).cells).1, ((H1.out.bel hX).cells).2.1⟩)
    have B1 : Hid (Below W.heap.size W W.drew) := hid_of (Below.refl _ _).drew
    cases hd : Wr.dec (d.drop off) with
    | none =>
      have e1 : Wr.tR d (some off) = ([], none) := by simp only [Wr.tR, Wr.decRun, hd]
      rw [hd] at RW
      have RW : Hid (Calls Try.prog 69 #[.slice ao n cap, .int .i64 off] W.drew fun e w' => e = .returned (.tuple #[.int .u64 0, .int .i64 off, .bool false]) ∧ Below W.drew.heap.size W.drew w') := RW
      rw [e1]
      clear h hW hd e1 hdl
      go_enter Try.func48, Try.ntmps48
      go_wp2
      rw [HW.out]
      go_region_held3 (fun X => X.cell? ⟨b, 0, none⟩ = some (.slice ao n cap) ∧ X.cell? ⟨b, 1, none⟩ = some (.int .i64 off)) (exact HKS.out _ (Hid.out (by with_reducible assumption))) (first
        | (go_at_call 69; ((with_reducible refine (RW.out).mono ?_); (rintro e w3 ⟨rfl, q1⟩)); have B3 : Hid (Below W.heap.size W w3) := hid_of (undrew q1); clear q1; have I3 := hid_of (H1.out.bel B3.out); obtain ⟨k0, k1, k2, k3⟩ := I3.out.cells; have f3 := I3.out.free 3; have I4 := hid_of (I3.out.set 3 (.bool true) rfl)))
      all_goals go_wp2
      all_goals go_ret
      all_goals exact ⟨none, 0, 0, rfl, rd_none _, (fun h9 => absurd h9 (by omega)), ⟨_, _, I4.out⟩, kept_trans K1.out (kept_trans (kept_bel B3.out) (kept_set _ _ _ _))⟩
    | some x =>
      obtain ⟨m, k⟩ := x
      obtain ⟨l1, l2⟩ := dec_le h.rng hdl ho hd
      have hsm := h.small
      rw [hd] at RW
      have RW : Hid (Calls Try.prog 69 #[.slice ao n cap, .int .i64 off] W.drew fun e w' => e = .returned (.tuple #[.int .u64 m, .int .i64 ((off + k : Nat) : Int), .bool true]) ∧ Below W.drew.heap.size W.drew w') := RW
      by_cases hfit : off + k + m ≤ n
      · have e1 : Wr.tR d (some off) = ((d.drop (off + k)).take m, some (off + k + m)) := by simp only [Wr.tR, Wr.decRun, hd]; rw [if_pos (by rw [List.length_drop]; omega)]
        have dgt : decide ((m : Int) > (n : Int) - ((off : Int) + (k : Int))) = false := by simp; omega
        have dgt2 : decide ((n : Int) - ((off : Int) + (k : Int)) < (m : Int)) = false := by simp; omega
        have hk0 := (Wr.decl_bound (fun y hy => h.rng y (List.mem_of_mem_drop hy)) hd).1
        obtain ⟨hdl2, hcap, hop⟩ := bs_open h.rd
        obtain ⟨g, o, rfl, hg, hc⟩ := hop (by omega)
        obtain ⟨A, SR, SA⟩ := lh_rule g o n cap (off + k) (off + k + m) (by omega) (by omega)
        have em : off + k + m - (off + k) = m := by omega
        rw [em] at SR
        have c1' : ((off + k : Nat) : Int) = (off : Int) + (k : Int) := by omega
        have c2' : ((off + k + m : Nat) : Int) = (off : Int) + (k : Int) + (m : Int) := by omega
        rw [c1', c2'] at SR
        obtain ⟨Q, hQ⟩ : ∃ Q, Q = (d.drop (off + k)).take m := ⟨_, rfl⟩
        have HQ : Hid (∀ X, Rd X (.slice (some ⟨g, o, none⟩) n cap) (Wr.bs d) → Rd X (.slice A m (cap - (off + k))) (Wr.bs Q)) := hid_of (fun X hX => by rw [hQ]; exact bs_part hX hfit SA)
        have HQL : Hid (Q.length = m) := hid_of (by rw [hQ, List.length_take, List.length_drop]; omega)
        rw [e1, ← hQ]
        have SRX := hid_of SR
        have em2 : m ≤ 140737488351232 := by omega
        clear h hW hd e1 hdl hQ hdl2 hc hop SA SR em c1' c2'
        go_enter Try.func48, Try.ntmps48
        go_wp2
        rw [HW.out]
        go_region_held3 (fun X => X.cell? ⟨b, 0, none⟩ = some (.slice (some ⟨g, o, none⟩) n cap) ∧ X.cell? ⟨b, 1, none⟩ = some (.int .i64 off)) (exact HKS.out _ (Hid.out (by with_reducible assumption))) (first
          | (go_at_call 69; ((with_reducible refine (RW.out).mono ?_); (rintro e w3 ⟨rfl, q1⟩)); have B3 : Hid (Below W.heap.size W w3) := hid_of (undrew q1); clear q1; have I3 := hid_of (H1.out.bel B3.out); obtain ⟨k0, k1, k2, k3⟩ := I3.out.cells; have f1 := I3.out.free 1; have I4 := hid_of (I3.out.set 1 (.int .i64 ((off : Int) + (k : Int) + (m : Int))) rfl); obtain ⟨z0, z1, z2, z3⟩ := I4.out.cells))
        have SR := SRX.out
        go_wp2
        obtain ⟨W4, hW4⟩ : ∃ W4, W4 = w3.setCell ⟨b, 1, none⟩ (.int .i64 ((off : Int) + (k : Int) + (m : Int))) := ⟨_, rfl⟩
        have K4 : Hid (Wr.Kept (fun k => k = b) w W4) := hid_of (by rw [hW4]; exact kept_trans K1.out (kept_trans (kept_bel B3.out) (kept_set _ _ _ _)))
        rw [← hW4] at I4 ⊢
        clear hW4 z0 z1 z2 z3
        have B6 := hid_of ((bel_alloc W4 (.cells #[] 5)).drew)
        have B5 : Hid (Below W4.heap.size W4 W4.drew) := hid_of (Below.refl _ _).drew
        have I6 := hid_of (I4.out.bel B6.out)
        obtain ⟨z0, z1, z2, z3⟩ := I6.out.cells
        obtain ⟨y0, y1, y2, y3⟩ := I4.out.cells
        obtain ⟨x0, x1, x2, x3⟩ := (I4.out.bel B5.out).cells
        have OW6 := hid_of ((eown_new W4).drew)
        have RD6 := hid_of (HQ.out _ I6.out.rd)
        go_region_law (refine step_gen 46 5 (.int .u8 0) 1 1 u8E.und u8E.info u8E.one (by decide) (by kernel_rfl) (.tmp 54) (.tmp 64) (by kernel_rfl) (B := W4.heap.size) (v := .slice (some ⟨W4.heap.size, 0, none⟩) 0 0) (l := []) (by kernel_rfl) OW6.out (by simp) (vx := .slice A m (cap - (off + k))) (by kernel_rfl) (src_part u8E RD6.out HQL.out) (by omega) (by omega) ?_; intro ao5 cap5 w5 ga; have G5 := hid_of ga; clear ga)
        all_goals go_wp2
        all_goals go_ret
        all_goals (obtain ⟨x, k', c, e, r, t⟩ := by_fin (l := off + k + m) I4.out B6.out OW6.out G5.out K4.out HQL.out (by omega) em2; rw [Nat.zero_add] at e; exact ⟨x, k', c, e, r, t⟩)
      · have e1 : Wr.tR d (some off) = ([], none) := by simp only [Wr.tR, Wr.decRun, hd]; rw [if_neg (by rw [List.length_drop]; omega)]
        have dgt : decide ((m : Int) > (n : Int) - ((off : Int) + (k : Int))) = true := by simp; omega
        have dgt2 : decide ((n : Int) - ((off : Int) + (k : Int)) < (m : Int)) = true := by simp; omega
        rw [e1]
        clear h hW hd e1 hdl
        go_enter Try.func48, Try.ntmps48
        go_wp2
        rw [HW.out]
        go_region_held3 (fun X => X.cell? ⟨b, 0, none⟩ = some (.slice ao n cap) ∧ X.cell? ⟨b, 1, none⟩ = some (.int .i64 off)) (exact HKS.out _ (Hid.out (by with_reducible assumption))) (first
          | (go_at_call 69; ((with_reducible refine (RW.out).mono ?_); (rintro e w3 ⟨rfl, q1⟩)); have B3 : Hid (Below W.heap.size W w3) := hid_of (undrew q1); clear q1; have I3 := hid_of (H1.out.bel B3.out); obtain ⟨k0, k1, k2, k3⟩ := I3.out.cells; have f3 := I3.out.free 3; have I4 := hid_of (I3.out.set 3 (.bool true) rfl)))
        all_goals go_wp2
        all_goals go_ret
        all_goals exact ⟨none, 0, 0, rfl, rd_none _, (fun h9 => absurd h9 (by omega)), ⟨_, _, I4.out⟩, kept_trans K1.out (kept_trans (kept_bel B3.out) (kept_set _ _ _ _))⟩
theorem it_any (s : Option Nat) (h : IS w b ao n cap d s) : Calls Try.prog 45 #[.pointer (some ⟨b, 0, none⟩)] w fun e w' => e = .returned (.string (strOfNums (Wr.tR d s).1)) ∧ IT w w' b ao n cap d (Wr.tR d s).2 := by
  have HB := hid_of (ib_any w b ao n cap d s h)
  clear h
  go_enter Try.func45, Try.ntmps45
  go_wp2_with (go_at_call 48; ((with_reducible refine (HB.out).mono ?_); (rintro e w2 ⟨x, k, c, rfl, q1, _, q2⟩)); have cv := conv_rdq q1; have I2 := hid_of q2; clear q1 q2)
  go_ret
  exact ⟨rfl, I2.out⟩
end
end Go.Proofs.Ytofmijebinnejaa

/- The journal's reference: Holds. Bounds on sizes alone. -/
namespace Go.Proofs.Ytofmijebinnejaa
open Go.RowKit
open Wr (decRun dec)
set_option maxRecDepth 100000
set_option maxHeartbeats 6400000

theorem il_any (w : World) (b : Nat) (ao : Option Addr) (n cap : Nat) (d : List Int) (off : Nat) (h : IS w b ao n cap d (some off)) : Calls Try.prog 47 #[.pointer (some ⟨b, 0, none⟩)] w fun e w' => e = .returned (.int .i64 ((n - off : Nat) : Int)) ∧ ∃ m, w' = w.drewN m := by
  obtain ⟨last, ho, h⟩ := h
  obtain ⟨c0, c1, c2, c3⟩ := h.cells
  have hsm := h.small
  have a1 : IntKind.i64.wrap ((n : Int) - (off : Int)) = (n : Int) - (off : Int) := IntWalk.i64_in _ (by omega)
  clear h
  go_enter Try.func47, Try.ntmps47
  go_wp2
  go_quiet (fail)
  go_wp2
  go_ret
  exact ⟨Wr.ret_i64 (by omega), nq, rfl⟩
/-- A record more, wherever it lies. -/
theorem RK.push2 {w wr w3 : World} {b : Nat} {vs : Value} {acc : List (List Int)} {xs : List Value} {p : Nat} (hp : p = acc.length) (h : RK w wr b b vs acc xs) (hb : w.heap.size ≤ b ∧ b < wr.heap.size) (k : Wr.Kept (fun k => k = b) wr w3) {q : List Int} {x : Value} (hx : CR (fun k => wr.heap.size ≤ k ∧ k < w3.heap.size) w3 x q)
    {ao : Option Addr} {cap : Nat} {w5 : World} (ga : GA w.heap.size 46 1 (w3.alloc (.cells #[x] 46)) w5 vs (.slice ao (p + 1) cap) (p + 1) (xs ++ [x])) :
    RK w w5 b b (.slice ao (p + 1) cap) (acc ++ [q]) (xs ++ [x]) := by
  subst hp
  have h3 := h.kept hb.1 k
  have s4 : (w3.alloc (.cells #[x] 46)).heap.size = w3.heap.size + 1 := by simp
  have ba := bel_alloc w3 (.cells #[x] 46)
  have hfr : ∀ k, (Value.slice ao (acc.length + 1) cap).ownBlock = some k → vs.ownBlock = some k ∨ k = w3.heap.size + 1 := fun k hk => by
    rcases ga.fr with e | e
    · exact Or.inl (by rw [← e]; exact hk)
    · rw [e] at hk; exact Or.inr (by rw [← s4]; exact (Option.some.inj hk).symm)
  have k5 : ∀ k, k < w3.heap.size → vs.ownBlock ≠ some k → w5.heap[k]? = w3.heap[k]? := fun k hk hv => (ga.gr.block k (by omega) (fun e => hv e.symm)).trans (ba.block k hk)
  have s5 := ga.gr.size
  have hs3 : wr.heap.size ≤ w3.heap.size := k.size
  have bel5 : Below w.heap.size w w5 := h3.bel.trans ((ba.mono h3.bel.size).trans ⟨ga.gr.os, ga.gr.tape, ga.gr.output, ga.gr.size, fun q hq => ga.gr.block q (by have := h3.bel.size; omega) (fun e => by have := (h3.own.lt q e.symm).1; omega)⟩)
  have hnb : (Value.slice ao (acc.length + 1) cap).ownBlock ≠ some b := fun e => by
    rcases hfr b e with h1 | h1
    · exact h.nb.1 h1
    · omega
  refine ⟨bel5, by rw [List.length_append]; exact ga.own, ⟨hnb, hnb⟩, fun i y l hy hl => ?_⟩
  have hxl := h.xl
  by_cases e : i < xs.length
  · rw [List.getElem?_append_left e] at hy
    rw [List.getElem?_append_left (by omega)] at hl
    refine (CR.keep (h3.ent i y l hy hl).lt ⟨by omega, fun k hk _ => k5 k hk.2 hk.1.2.2.2⟩).mono fun k hk => ⟨hk.1.1, hk.1.2.1, hk.1.2.2.1, fun e2 => ?_⟩
    rcases hfr k e2 with h1 | h1
    · exact hk.1.2.2.2 h1
    · have := hk.2; omega
  · rw [List.getElem?_append_right (by omega)] at hy
    rw [List.getElem?_append_right (by omega)] at hl
    have hi : i = xs.length := by have := (List.getElem?_eq_some_iff.1 hy).1; simp at this; omega
    subst hi
    rw [hxl] at hl
    simp at hy hl
    subst hy hl
    have hvn : ∀ k, wr.heap.size ≤ k → vs.ownBlock ≠ some k := fun k hk e2 => by have := (h.own.lt k e2).2; omega
    refine (hx.keep ⟨by omega, fun k hk _ => k5 k hk.2 (hvn k hk.1)⟩).mono fun k hk => ⟨by have := h.bel.size; omega, by omega, by omega, fun e2 => ?_⟩
    rcases hfr k e2 with h1 | h1
    · exact hvn k hk.1 h1
    · omega
end Go.Proofs.Ytofmijebinnejaa

/- The journal's reference: Holds, whole. Bounds on sizes alone. -/
namespace Go.Proofs.Ytofmijebinnejaa
open Go.RowKit
open Wr (decRun dec)
set_option maxRecDepth 100000
set_option maxHeartbeats 6400000

theorem upto_u8 (g o len cap s : Nat) (hs : s ≤ cap) : ∀ wx, (Instr.slice 46 (.slice (some ⟨g, o, none⟩) len cap) none (some (.int .u64 (s : Int))) none).run Try.prog wx = .ok (.slice (some ⟨g, o, none⟩) s cap) wx := fun wx => by
  obtain ⟨i0, hi, hz0, hz1, hz2⟩ := info_parts u8E.info
  have he : Try.prog.elem 46 = 5 := by kernel_rfl
  have ht : Try.prog.underlying 46 = some (.slice (Try.prog.elem 46)) := by rw [he]; exact Try.underlying46
  have hsz : (sizeOf (Try.prog.elem 46)).run Try.prog wx = .ok 1 wx := by
    rw [he]
    simp [sizeOf, typeInfo, hi, hz1]
  rw [run_slice_h (t := 46) (ht := ht) (h0 := by omega) (h2 := by omega), hsz]
  simp [Result.andThen, sliced, Addr.add]
theorem fro_u8 (g o len cap s : Nat) (hs : s ≤ len) (hc : len ≤ cap) : ∃ A, (∀ wx, (Instr.slice 46 (.slice (some ⟨g, o, none⟩) len cap) (some (.int .i64 (s : Int))) none none).run Try.prog wx = .ok (.slice A (len - s) (cap - s)) wx) ∧ (s < cap → A = some ⟨g, o + s, none⟩) := by
  obtain ⟨i0, hi, hz0, hz1, hz2⟩ := info_parts u8E.info
  have he : Try.prog.elem 46 = 5 := by kernel_rfl
  have ht : Try.prog.underlying 46 = some (.slice (Try.prog.elem 46)) := by rw [he]; exact Try.underlying46
  have hsz : ∀ wx, (sizeOf (Try.prog.elem 46)).run Try.prog wx = .ok 1 wx := fun wx => by
    rw [he]
    simp [sizeOf, typeInfo, hi, hz1]
  refine ⟨if cap = s then some ⟨g, o, none⟩ else (some (⟨g, o, none⟩ : Addr)).map (·.add (s * 1)), fun wx => ?_, fun hlt => ?_⟩
  · rw [run_slice_l (t := 46) (ht := ht) (h0 := by omega) (h1 := by omega), hsz]
    rfl
  · rw [if_neg (by omega), Option.map_some, Addr.add_mid, Nat.mul_one]
/-- What the two reads of a head give. -/
theorem hd_st {H : List Int} (h0 : zerosB H = false) :
    ((Wr.uR H (Wr.tR H (some 0)).2).2 = none → hdF H = none) ∧ ∀ off, (Wr.uR H (Wr.tR H (some 0)).2).2 = some off → hdF H = if (Wr.tR H (some 0)).1 = jnT then (if zerosB (H.drop off) = true then some (Wr.uR H (Wr.tR H (some 0)).2).1 else none) else none := by
  have hz : ¬ zerosB H = true := by simp [h0]
  cases hd : decRun H with
  | none =>
    have ht : Wr.tR H (some 0) = ([], none) := by simp only [Wr.tR, List.drop_zero, hd]
    rw [ht]
    exact ⟨fun _ => by rw [hdF, if_neg hz, hd], fun off h => by cases h⟩
  | some x =>
    obtain ⟨k, m⟩ := x
    have ht : Wr.tR H (some 0) = ((H.drop k).take m, some (k + m)) := by simp only [Wr.tR, List.drop_zero, hd, Nat.zero_add]
    rw [ht]
    cases hu : dec (H.drop (k + m)) with
    | none =>
      have hu2 : Wr.uR H (some (k + m)) = (0, none) := by simp only [Wr.uR, hu]
      rw [hu2]
      exact ⟨fun _ => by rw [hdF, if_neg hz, hd]; simp only [hu]; split <;> rfl, fun off h => by cases h⟩
    | some y =>
      obtain ⟨n, k2⟩ := y
      have hu2 : Wr.uR H (some (k + m)) = (n, some (k + m + k2)) := by simp only [Wr.uR, hu]
      rw [hu2]
      refine ⟨fun h => (by cases h), fun off h => ?_⟩
      cases h
      rw [hdF, if_neg hz, hd]
      simp only [hu]
theorem Ib.same {w w2 : World} {b B0 : Nat} {ao : Option Addr} {n cap : Nat} {d : List Int} {v1 v2 v3 : Value} (h : Ib w b ao n cap d v1 v2 v3) (hin : 0 < d.length → In (fun k => k < B0) (.slice ao n cap)) (hs : w.heap.size ≤ w2.heap.size) (hb : w2.heap[b]? = w.heap[b]?) (hk : ∀ k, k < B0 → k < w.heap.size → w2.heap[k]? = w.heap[k]?) : Ib w2 b ao n cap d v1 v2 v3 :=
  ⟨hb.trans h.blk, (CR.keep (S := fun k => k < B0) (show CR (fun k => k < B0) w (.slice ao n cap) d from ⟨h.rd, hin⟩) ⟨hs, hk⟩).1, h.ne, h.rng, h.small⟩
theorem IS.same {w w2 : World} {b B0 : Nat} {ao : Option Addr} {n cap : Nat} {d : List Int} {s : Option Nat} (h : IS w b ao n cap d s) (hin : 0 < d.length → In (fun k => k < B0) (.slice ao n cap)) (hs : w.heap.size ≤ w2.heap.size) (hb : w2.heap[b]? = w.heap[b]?) (hk : ∀ k, k < B0 → k < w.heap.size → w2.heap[k]? = w.heap[k]?) : IS w2 b ao n cap d s := by
  cases s with
  | none => obtain ⟨x1, x2, h⟩ := h; exact ⟨x1, x2, h.same hin hs hb hk⟩
  | some off => obtain ⟨x, ho, h⟩ := h; exact ⟨x, ho, h.same hin hs hb hk⟩
theorem IS.at1 {w : World} {b : Nat} {ao : Option Addr} {n cap : Nat} {d : List Int} {off : Nat} (h : IS w b ao n cap d (some off)) : w.cell? ⟨b, 1, none⟩ = some (.int .i64 off) ∧ off ≤ n ∧ w.cell? ⟨b, 3, none⟩ = some (.bool false) := by
  obtain ⟨x, ho, h⟩ := h
  exact ⟨h.cells.2.1, ho, h.cells.2.2.2⟩
theorem rd_upto {w : World} {ao : Option Addr} {n cap : Nat} {l : List Int} (h : Rd w (.slice ao n cap) (by8 l)) {k : Nat} (hk : k ≤ n) : Rd w (.slice ao k cap) (by8 (l.take k)) := by
  obtain ⟨a, c, e, h2, h3, h4⟩ := h
  simp only [Value.slice.injEq] at e
  obtain ⟨rfl, rfl, rfl⟩ := e
  rw [by8_length] at hk h2 h4
  have hl : (by8 (l.take k)).length = k := by rw [by8_length, List.length_take]; omega
  refine ⟨ao, cap, by rw [hl], by rw [hl]; omega, h3, fun h0 => ?_⟩
  obtain ⟨g, o, e1, e2, e3⟩ := h4 (by omega)
  refine ⟨g, o, e1, e2, fun j u hu => e3 j u ?_⟩
  rw [by8, List.map_take, List.getElem?_take] at hu
  split at hu
  · exact hu
  · cases hu
theorem rd_from {w : World} {g o n cap s : Nat} {l : List Int} {A : Option Addr} (h : Rd w (.slice (some ⟨g, o, none⟩) n cap) (by8 l)) (hn : l.length = n) (hs : s ≤ n) (hA : s < cap → A = some ⟨g, o + s, none⟩) : Rd w (.slice A (n - s) (cap - s)) (by8 (l.drop s)) := by
  have h1 := bs_part (m := n - s) (l := s) (d := l) (A := A) h (by omega) hA
  rw [List.take_of_length_le (by rw [List.length_drop]; omega)] at h1
  exact h1
theorem decRun_some' {l : List Int} {k n : Nat} (h : decRun l = some (k, n)) : dec l = some (n, k) ∧ n ≤ l.length - k := Wr.decRun_some h
/-- What Holds gives. -/
def HoP (H A : List Int) (w : World) (e : Ending) (w' : World) : Prop := (∃ (R : List (List Int)) (x : Option Addr) (n c : Nat), holdsF H A = some R ∧ e = .returned (.tuple #[.slice x n c, .bool true]) ∧ RB (fun k => w.heap.size ≤ k) w' (.slice x n c) R ∧ Below w.heap.size w w') ∨ (holdsF H A = none ∧ e = .returned (.tuple #[.slice none 0 0, .bool false]) ∧ Below w.heap.size w w')
theorem rholds_any (H A : List Int) (a1 : Option Addr) (n1 c1 : Nat) (a2 : Option Addr) (n2 c2 : Nat) (w : World) (r1 : Rd w (.slice a1 n1 c1) (by8 H)) (r2 : Rd w (.slice a2 n2 c2) (by8 A)) (g1 : Byt H) (g2 : Byt A) (l1 : H.length ≤ 100000) (l2 : A.length ≤ 100000) (l0 : 0 < A.length) :
    Calls Try.prog 25 #[.slice a1 n1 c1, .slice a2 n2 c2] w (HoP H A w) := by
  have hn1 := (rd_cut r1).1
  have hn2 := (rd_cut r2).1
  have hc1 := (rd_cut r1).2
  have hc2 := (rd_cut r2).2
  rw [by8_length] at hn1 hn2
  have HN1 := hid_of hn1
  have HN2 := hid_of hn2
  obtain ⟨w1, hw1⟩ : ∃ w1, w1 = w.alloc (.cells #[] 46) := ⟨_, rfl⟩
  have b1 : Below w.heap.size w w1 := by rw [hw1]; exact bel_alloc w _
  have sz1 : w1.heap.size = w.heap.size + 1 := by rw [hw1]; simp
  have CZ := hid_of (rzeros_any a1 n1 c1 H w1 (r1.at b1))
  have HW1 := hid_of hw1
  have BE1 := hid_of b1
  by_cases hz : zerosB H = true
  · rw [hz] at CZ
    have HH : Hid (holdsF H A = some []) := hid_of (by unfold holdsF; rw [if_pos (show H.all (· == 0) = true from hz)])
    clear r1 r2 b1 hz hn1 hn2
    go_enter Try.func25, Try.ntmps25
    go_wp2_with (first
      | (go_at_call 44; rw [← HW1.out]; ((with_reducible refine (CZ.out).mono ?_); (rintro e w2 ⟨rfl, rfl⟩))))
    go_ret2
    exact Or.inl ⟨[], _, _, _, HH.out, rfl, rb_nil _ _ _ _ (by omega), bel_alloc w _⟩
  have hz' : zerosB H = false := by simpa using hz
  rw [hz'] at CZ
  obtain ⟨hs1, hs2⟩ := hd_st hz'
  have hHne : 0 < H.length := by
    rcases Nat.eq_zero_or_pos H.length with h9 | h9
    · rw [List.length_eq_zero_iff.1 h9] at hz'; cases hz'
    · exact h9
  obtain ⟨gH, oH, rfl⟩ : ∃ g o, a1 = some ⟨g, o, none⟩ := by
    obtain ⟨y, hy⟩ : ∃ y, (by8 H)[0]? = some y := ⟨_, List.getElem?_eq_getElem (by rw [by8_length]; exact hHne)⟩
    obtain ⟨g, o, e, _⟩ := rd_at r1 hy
    exact ⟨g, o, e⟩
  obtain ⟨gA, oA, rfl⟩ : ∃ g o, a2 = some ⟨g, o, none⟩ := by
    obtain ⟨y, hy⟩ : ∃ y, (by8 A)[0]? = some y := ⟨_, List.getElem?_eq_getElem (by rw [by8_length]; exact l0)⟩
    obtain ⟨g, o, e, _⟩ := rd_at r2 hy
    exact ⟨g, o, e⟩
  obtain ⟨w2, hw2⟩ : ∃ w2, w2 = w1.alloc (.cells #[.slice (some ⟨gH, oH, none⟩) n1 c1, .int .i64 0, .int .i64 0, .bool false] 85) := ⟨_, rfl⟩
  have HW2 := hid_of hw2
  have b2 : Below w.heap.size w w2 := by rw [hw2]; exact b1.trans ((bel_alloc _ _).mono (by omega))
  have sz2 : w2.heap.size = w.heap.size + 2 := by rw [hw2]; simp; omega
  have I2 : IS w2 (w.heap.size + 1) (some ⟨gH, oH, none⟩) n1 c1 H (some 0) := ⟨0, Nat.zero_le _, by rw [hw2, ← sz1]; exact heap_alloc_new w1 _, r1.at b2, fun h0 a n c e => by
    have := rd_in r1 (by rw [by8_length]; exact h0) a n c e
    omega, g1, by omega⟩
  have CT := hid_of (it_any w2 (w.heap.size + 1) (some ⟨gH, oH, none⟩) n1 c1 H (some 0) I2)
  have CU := hid_of (fun (X : World) (s : Option Nat) (h : IS X (w.heap.size + 1) (some ⟨gH, oH, none⟩) n1 c1 H s) => iu_any X (w.heap.size + 1) (some ⟨gH, oH, none⟩) n1 c1 H s h)
  have BE2 := hid_of b2
  obtain ⟨nm, hnm⟩ : ∃ nm, nm = (Wr.tR H (some 0)).1 := ⟨_, rfl⟩
  obtain ⟨st1, hst1⟩ : ∃ s, s = (Wr.tR H (some 0)).2 := ⟨_, rfl⟩
  have hnr : Byt nm := fun y hy => by
    rw [hnm] at hy
    unfold Wr.tR at hy
    split at hy
    · cases hy
    · split at hy
      · exact g1 y (List.mem_of_mem_drop (List.mem_of_mem_take hy))
      · cases hy
  obtain ⟨nn, hnn⟩ : ∃ nn, nn = (Wr.uR H st1).1 := ⟨_, rfl⟩
  obtain ⟨st2, hst2⟩ : ∃ s, s = (Wr.uR H st1).2 := ⟨_, rfl⟩
  have CU1 := hid_of (fun (X : World) (h : IS X (w.heap.size + 1) (some ⟨gH, oH, none⟩) n1 c1 H st1) => CU.out X st1 h)
  rw [← hnm, ← hst1] at CT
  rw [← hst1, ← hnn, ← hst2] at hs2
  rw [← hst1, ← hst2] at hs1
  rw [← hnn, ← hst2] at CU1
  rw [← hnm] at hs2
  have HKB := hid_of (fun (X Y : World) (k : Wr.Kept (fun k => k = w.heap.size + 1) X Y) (hX : Below w.heap.size w X) => show Below w.heap.size w Y from hX.trans (k.below (by have := hX.size; omega) fun q e => by omega))
  obtain ⟨sq, hsq⟩ : ∃ sq, sq = strOfNums nm := ⟨_, rfl⟩
  rw [← hsq] at CT
  cases st2 with
  | none =>
    have HH : Hid (holdsF H A = none) := hid_of (by rw [holds_hd, hs1 rfl]; rfl)
    clear r1 r2 b1 b2 hs1 hs2 hz hz' I2 CU hnm hst1 hnn hst2 hsq hnr hn1 hn2 hw1 hw2 sz2
    go_enter Try.func25, Try.ntmps25
    go_wp2_with (first
      | (go_at_call 44; rw [← HW1.out]; ((with_reducible refine (CZ.out).mono ?_); (rintro e w2 ⟨rfl, rfl⟩)))
      | (go_at_call 45; (try rw [sz1]); rw [← HW2.out]; ((with_reducible refine (CT.out).mono ?_); (rintro e w3 ⟨rfl, q1, q2⟩)); have I3 := hid_of q1; have B3 := hid_of (HKB.out _ _ q2 BE2.out); clear q1 q2)
      | (go_at_call 46; ((with_reducible refine (CU1.out w3 I3.out).mono ?_); (rintro e w4 ⟨rfl, q1, q2⟩)); have I4 := hid_of q1; have B4 := hid_of (HKB.out _ _ q2 B3.out); have c3 := I4.out.bad.1; clear q1 q2))
    go_ret2
    exact Or.inr ⟨HH.out, rfl, B4.out⟩
  | some off =>
    have hHF := hs2 off rfl
    have hol : off ≤ n1 := by
      rw [hn1]
      have h9 := hst2
      cases st1 with
      | none => cases h9
      | some o1 =>
        simp only [Wr.uR] at h9
        cases hu : dec (H.drop o1) with
        | none => rw [hu] at h9; cases h9
        | some y =>
          obtain ⟨m9, k9⟩ := y
          rw [hu] at h9
          simp only [Option.some.injEq] at h9
          have h8 := Wr.decl_bound (fun y hy => g1 y (List.mem_of_mem_drop hy)) hu
          rw [List.length_drop] at h8
          omega
    obtain ⟨SA, SR, SAA⟩ := fro_u8 gH oH n1 c1 off hol hc1.1
    have CZ2G := hid_of (fun (X : World) (hX : Below w.heap.size w X) => rzeros_any SA (n1 - off) (c1 - off) (H.drop off) X (rd_from (r1.at hX) hn1.symm hol SAA))
    have c19 : (n1 : Int) ≤ (c1 : Int) := by omega
    have o19 : (off : Int) ≤ (n1 : Int) := by omega
    have s64 : IntKind.u64.wrap (n2 : Int) = (n2 : Int) := IntWalk.u64_in _ (by omega)
    by_cases hj : nm = jnT
    · have es : sq = jnB := by rw [hsq]; exact (strs_jn hnr).2 hj
      have e1 : (sq.toList == [106, 111, 117, 114, 110, 97, 108]) = true := beq_iff_eq.2 (by rw [es]; exact jnB_list)
      rw [if_pos hj] at hHF
      cases hzd : zerosB (H.drop off) with
      | false =>
        rw [hzd] at CZ2G
        have HH : Hid (holdsF H A = none) := hid_of (by rw [holds_hd, hHF, if_neg (by rw [hzd]; simp)]; rfl)
        clear r1 r2 b1 b2 hs1 hs2 hz hz' I2 CU hnm hst1 hnn hst2 hsq hnr hn1 hn2 hw1 hw2 sz2 hHF hj es hzd SAA
        go_enter Try.func25, Try.ntmps25
        go_wp2_with (first
          | (go_at_call 44; rw [← HW1.out]; ((with_reducible refine (CZ.out).mono ?_); (rintro e w2 ⟨rfl, rfl⟩)))
          | (go_at_call 45; (try rw [sz1]); rw [← HW2.out]; ((with_reducible refine (CT.out).mono ?_); (rintro e w3 ⟨rfl, q1, q2⟩)); have I3 := hid_of q1; have B3 := hid_of (HKB.out _ _ q2 BE2.out); have K3 := hid_of q2; clear q1 q2)
          | (go_at_call 46; ((with_reducible refine (CU1.out w3 I3.out).mono ?_); (rintro e w4 ⟨rfl, q1, q2⟩)); have I4 := hid_of q1; have B4 := hid_of (HKB.out _ _ q2 B3.out); have K4 := hid_of q2; obtain ⟨c1', _, c3⟩ := I4.out.at1; have CZ2 := hid_of (CZ2G.out w4 B4.out); clear q1 q2)
          | (go_at_call 44; ((with_reducible refine (CZ2.out).mono ?_); (rintro e w5 ⟨rfl, rfl⟩))))
        go_ret2
        exact Or.inr ⟨HH.out, rfl, B4.out⟩
      | true =>
        rw [hzd] at CZ2G
        rw [if_pos hzd] at hHF
        by_cases hfit : n2 < nn
        · have f1 : decide (n2 < nn) = true := decide_eq_true hfit
          have f2 : decide ((n2 : Int) < (nn : Int)) = true := decide_eq_true (by omega)
          have HH : Hid (holdsF H A = none) := hid_of (by rw [holds_hd, hHF]; show (if nn ≤ A.length then _ else none) = none; rw [if_neg (by omega)])
          clear r1 r2 b1 b2 hs1 hs2 hz hz' I2 CU hnm hst1 hnn hst2 hsq hnr hn1 hn2 hw1 hw2 sz2 hHF hj es hzd SAA
          go_enter Try.func25, Try.ntmps25
          go_wp2_with (first
            | (go_at_call 44; rw [← HW1.out]; ((with_reducible refine (CZ.out).mono ?_); (rintro e w2 ⟨rfl, rfl⟩)))
            | (go_at_call 45; (try rw [sz1]); rw [← HW2.out]; ((with_reducible refine (CT.out).mono ?_); (rintro e w3 ⟨rfl, q1, q2⟩)); have I3 := hid_of q1; have B3 := hid_of (HKB.out _ _ q2 BE2.out); have K3 := hid_of q2; clear q1 q2)
            | (go_at_call 46; ((with_reducible refine (CU1.out w3 I3.out).mono ?_); (rintro e w4 ⟨rfl, q1, q2⟩)); have I4 := hid_of q1; have B4 := hid_of (HKB.out _ _ q2 B3.out); have K4 := hid_of q2; obtain ⟨c1', _, c3⟩ := I4.out.at1; have CZ2 := hid_of (CZ2G.out w4 B4.out); clear q1 q2)
            | (go_at_call 44; ((with_reducible refine (CZ2.out).mono ?_); (rintro e w5 ⟨rfl, rfl⟩))))
          go_ret2
          exact Or.inr ⟨HH.out, rfl, B4.out⟩
        · have f1 : decide (n2 < nn) = false := decide_eq_false hfit
          have f2 : decide ((n2 : Int) < (nn : Int)) = false := decide_eq_false (by omega)
          obtain ⟨d, hd⟩ : ∃ d, d = A.take nn := ⟨_, rfl⟩
          have hdl : d.length = nn := by rw [hd, List.length_take]; omega
          have hdr : Byt d := fun y hy => g2 y (by rw [hd] at hy; exact List.mem_of_mem_take hy)
          have HH : Hid (holdsF H A = recsF d (d.length + 1) 0) := hid_of (by rw [holds_hd, hHF]; show (if nn ≤ A.length then _ else none) = _; rw [if_pos (by omega), hdl, hd])
          have SU := upto_u8 gA oA n2 c2 nn (by omega)
          have RA := hid_of (fun (X : World) (hX : Below w.heap.size w X) => show Rd X (.slice (some ⟨gA, oA, none⟩) nn c2) (by8 d) from by rw [hd]; exact rd_upto (r2.at hX) (by omega))
          have HIN2 := hid_of (show 0 < d.length → In (fun k => k < w.heap.size) (.slice (some ⟨gA, oA, none⟩) nn c2) from fun h0 a n c e => by
            have h9 := rd_in r2 (by rw [by8_length]; exact l0) (⟨gA, oA, none⟩) n2 c2 rfl
            cases e
            exact h9)
          have HDR := hid_of hdr
          have HDL := hid_of hdl
          have nn9 : nn ≤ 100000 := by omega
          have nn9' : (nn : Int) ≤ (c2 : Int) := by omega
          have HBL := hid_of (show w1.heap[w.heap.size]? = some (.cells #[] 46) from by rw [hw1]; exact heap_alloc_new w _)
          have HBL2 := hid_of (show w2.heap[w.heap.size]? = some (.cells #[] 46) from by rw [hw2]; exact ((bel_alloc w1 _).block _ (by omega)).trans HBL.out)
          have HS2 := hid_of sz2
          clear r1 r2 b1 b2 hs1 hs2 hz hz' I2 CU hnm hst1 hnn hst2 hsq hnr hn1 hn2 hw1 hw2 sz2 hHF hj es hzd SAA hd hdl hdr hfit
          go_enter Try.func25, Try.ntmps25
          go_wp2_with (first
            | (go_at_call 44; rw [← HW1.out]; ((with_reducible refine (CZ.out).mono ?_); (rintro e w2 ⟨rfl, rfl⟩)))
            | (go_at_call 45; (try rw [sz1]); rw [← HW2.out]; ((with_reducible refine (CT.out).mono ?_); (rintro e w3 ⟨rfl, q1, q2⟩)); have I3 := hid_of q1; have B3 := hid_of (HKB.out _ _ q2 BE2.out); have K3 := hid_of q2; clear q1 q2)
            | (go_at_call 46; ((with_reducible refine (CU1.out w3 I3.out).mono ?_); (rintro e w4 ⟨rfl, q1, q2⟩)); have I4 := hid_of q1; have B4 := hid_of (HKB.out _ _ q2 B3.out); have K4 := hid_of q2; obtain ⟨c1', _, c3⟩ := I4.out.at1; have CZ2 := hid_of (CZ2G.out w4 B4.out); clear q1 q2)
            | (go_at_call 44; ((with_reducible refine (CZ2.out).mono ?_); (rintro e w5 ⟨rfl, rfl⟩))))
          obtain ⟨b2, hb2⟩ : ∃ b2, b2 = w4.heap.size := ⟨_, rfl⟩
          rw [← hb2]
          obtain ⟨W5, hW5⟩ : ∃ W5, W5 = w4.alloc (.cells #[.slice (some ⟨gA, oA, none⟩) nn c2, .int .i64 0, .int .i64 0, .bool false] 85) := ⟨_, rfl⟩
          have ba : Below w4.heap.size w4 W5 := by rw [hW5]; exact bel_alloc w4 _
          have hs4 := B4.out.size
          have hk3 := K3.out.size
          have hk4 := K4.out.size
          have hss2 := HS2.out
          have hlb : W5.heap[w.heap.size]? = some (.cells #[] 46) := (ba.block _ (by omega)).trans ((K4.out.block w.heap.size (by omega) (by omega)).trans ((K3.out.block w.heap.size (by omega) (by omega)).trans HBL2.out))
          have hbw : w.heap.size ≤ b2 ∧ b2 < W5.heap.size ∧ w.heap.size < b2 := by
            have h9 : W5.heap.size = w4.heap.size + 1 := by rw [hW5]; simp
            omega
          have I5 : IS W5 b2 (some ⟨gA, oA, none⟩) nn c2 d (some 0) := ⟨0, Nat.zero_le _, by rw [hW5, hb2]; exact heap_alloc_new w4 _, RA.out W5 (B4.out.trans (ba.mono hs4)), fun h0 a n c e => by have := HIN2.out h0 a n c e; omega, HDR.out, by omega⟩
          have R5 : RK w W5 b2 b2 (.slice (some ⟨w.heap.size, 0, none⟩) 0 0) [] [] := ⟨B4.out.trans (ba.mono hs4), ⟨rfl, .inr ⟨w.heap.size, 0, #[], rfl, Nat.le_refl _, hlb, Nat.le_refl _, by unfold maxLen; omega, rfl, rfl⟩⟩, ⟨fun e => by simp [Value.ownBlock] at e; omega, fun e => by simp [Value.ownBlock] at e; omega⟩, fun i x l hx => by simp at hx⟩
          have HI5 := hid_of I5
          have HR5 := hid_of R5
          have HBW := hid_of hbw
          rw [← hW5]
          clear I5 R5 hbw hlb hss2 hk3 hk4 hs4 ba hW5 hb2 c1' c3
          go_loopw [6] (fun rv wr => ∃ (o : Nat) (acc : List (List Int)) (xs : List Value), acc.length ≤ o ∧ Hid (IS wr b2 (some ⟨gA, oA, none⟩) nn c2 d (some o)) ∧ Hid (RK w wr b2 b2 rv acc xs) ∧ Hid (b2 < wr.heap.size) ∧ Hid (recsF d (d.length + 1) 0 = (recsF d (d.length + 1 - acc.length) o).map (acc ++ ·))) (fun _ wr => (match wr.cell? ⟨b2, 1, none⟩ with | some (.int .i64 o) => (nn : Int) - o | _ => 0).toNat)
          case atStart => exact ⟨0, [], [], Nat.le_refl _, HI5, HR5, hid_of HBW.out.2.1, hid_of (by simp)⟩
          case round =>
            obtain ⟨o, acc, xs, hac, hrs, hk, hbl, hq⟩ := hrel
            obtain ⟨aR, cR, rfl⟩ := own_shape hk.out.own
            obtain ⟨hc1, hole, hc3⟩ := hrs.out.at1
            have HC1 := hid_of hc1
            obtain ⟨p, hp⟩ : ∃ p, p = acc.length := ⟨_, rfl⟩
            have HP := hid_of hp
            have hp9 : p ≤ 1000000000 := by omega
            rw [← hp] at hk hq hac ⊢
            clear hp hc1 hc3
            obtain ⟨f, hf⟩ : ∃ f, d.length + 1 - p = f + 1 := ⟨d.length - p, by have := HDL.out; omega⟩
            have HF := hid_of hf
            rw [hf] at hq
            clear hf
            have CL := hid_of (il_any wr b2 (some ⟨gA, oA, none⟩) nn c2 d o hrs.out)
            by_cases ho : o = nn
            · have HQ := hid_of (hq.out.trans (recs_end (ho.trans HDL.out.symm) acc))
              have hd0 : nn - o = 0 := by omega
              rw [hd0] at CL
              clear hd0 ho
              go_wp2_with (go_at_call 47; ((with_reducible refine (CL.out).mono ?_); (rintro e w2 ⟨rfl, ⟨m, rfl⟩⟩)))
              go_ret2
              have h9 := (hk.out.drewN m)
              exact Or.inl ⟨acc, aR, p, cR, HH.out.trans HQ.out, rfl, h9.rb, h9.bel⟩
            · obtain ⟨z, hz⟩ : ∃ z, z = nn - o := ⟨_, rfl⟩
              have hzp : (z : Int) > 0 := by omega
              have dz : decide ((z : Int) > 0) = true := decide_eq_true hzp
              have dz2 : decide ((0 : Int) < (z : Int)) = true := decide_eq_true hzp
              have dz3 : decide (0 < z) = true := decide_eq_true (by omega)
              rw [← hz] at CL
              have HO := hid_of (show o ≠ d.length by rw [HDL.out]; exact ho)
              have CB := hid_of (fun m => ib_any (wr.drewN m) b2 (some ⟨gA, oA, none⟩) nn c2 d (some o) (hrs.out.up (bel_drewN (Below.refl wr.heap.size _) m) hbl.out))
              have HON := hid_of ho
              clear hz ho hzp
              cases hd : decRun (d.drop o) with
              | none =>
                have HQ := hid_of (hq.out.trans (recs_stop HO.out hd acc))
                have ht : Wr.tR d (some o) = ([], none) := by simp only [Wr.tR, hd]
                rw [ht] at CB
                clear hd ht
                go_wp2_with (first
                  | (go_at_call 47; ((with_reducible refine (CL.out).mono ?_); (rintro e w2 ⟨rfl, ⟨m, rfl⟩⟩)))
                  | (go_at_call 48; ((with_reducible refine (CB.out m).mono ?_); (rintro e w3 ⟨x, k, c, rfl, q1, q2, q3, q4⟩)); have I3 := hid_of q3; have K3 := hid_of q4; have y3 := I3.out.bad.1; clear q1 q2 q3 q4))
                go_ret2
                exact Or.inr ⟨HH.out.trans HQ.out, rfl, ((hk.out.drewN m).kept HBW.out.1 K3.out).bel⟩
              | some y =>
                obtain ⟨k, n⟩ := y
                have hb := decRun_some' hd
                have hn1 := hb.2
                rw [List.length_drop] at hn1
                have hbd := Wr.decl_bound (fun y hy => HDR.out y (List.mem_of_mem_drop hy)) hb.1
                rw [List.length_drop] at hbd
                have HQ := hid_of (hq.out.trans (recs_more HO.out hd acc))
                have ht : Wr.tR d (some o) = ((d.drop (o + k)).take n, some (o + k + n)) := by simp only [Wr.tR, hd]
                rw [ht] at CB
                have hok : o + k + n ≤ nn := by have := HDL.out; omega
                have hk0 : 0 < k := hbd.1
                have hszN : ∀ m, (wr.drewN m).heap.size = wr.heap.size := fun _ => rfl
                obtain ⟨qq, hqq⟩ : ∃ qq, qq = (d.drop (o + k)).take n := ⟨_, rfl⟩
                rw [← hqq] at CB HQ
                obtain ⟨o2, ho2⟩ : ∃ o2, o2 = o + k + n := ⟨_, rfl⟩
                rw [← ho2] at CB HQ
                have HO2 := hid_of ho2
                clear hd hb hbd hn1 ht hqq ho2
                go_wp2_with (first
                  | (go_at_call 47; ((with_reducible refine (CL.out).mono ?_); (rintro e w2 ⟨rfl, ⟨m, rfl⟩⟩)))
                  | (go_at_call 48; ((with_reducible refine (CB.out m).mono ?_); (rintro e w3 ⟨xo, xk, xc, rfl, q1, q2, q3, q4⟩)); have I3 := hid_of q3; have K3 := hid_of q4; obtain ⟨_, _, y3⟩ := I3.out.at1; have X3 := hid_of (show CR (fun k => wr.heap.size ≤ k ∧ k < w3.heap.size) w3 (.slice xo xk xc) qq from ⟨q1, fun h0 a n c e => ⟨q2 (by have h8 := (rd_cut q1).1; rw [bs_len] at h8; omega) a n c e, rd_in q1 (by rw [bs_len]; exact h0) a n c e⟩⟩); have KK3 := hid_of ((hk.out.drewN m).kept HBW.out.1 q4); have OW3 := hid_of (show (w3.alloc (.cells #[.slice xo xk xc] 46)).ownsRow w.heap.size 46 1 (.slice aR p cR) p xs from by have h9 := KK3.out.own; rw [← HP.out] at h9; exact h9.alloc _); have HBS := KK3.out.bel.size; clear q1 q2 q3 q4)
                  | (at_builtin; (refine wpList_gen 34 46 (.slice none 0 0) 24 1 rowE.und rowE.info rowE.one (by decide) rfl _ _ rfl (B := w.heap.size) (v := .slice aR p cR) rfl OW3.out (by simp; omega) (vx := .slice (some ⟨w3.heap.size, 0, none⟩) 1 1) rfl (src_one w3 (.slice xo xk xc) rfl) (by omega) (by omega) ?_); intro ao2 cap2 w5 ga; have GA5 := hid_of ga; clear ga))
                have hb3 : b2 < w3.heap.size := Nat.lt_of_lt_of_le hbl.out K3.out.size
                have kr : ∀ q, q < w3.heap.size → (Value.slice aR p cR).ownBlock ≠ some q → w5.heap[q]? = w3.heap[q]? := fun q hq hv => (GA5.out.gr.block q (by simp; omega) (fun e => hv e.symm)).trans ((bel_alloc w3 _).block q hq)
                have hsz5 : w3.heap.size ≤ w5.heap.size := by have := GA5.out.gr.size; simp at this; omega
                have I5 := hid_of (I3.out.same HIN2.out hsz5 (kr b2 hb3 KK3.out.nb.1) (fun q hq hl => kr q hl (fun e => by have := (KK3.out.own.lt q e).1; omega)))
                have K5 := hid_of ((hk.out.drewN m).push2 HP.out ⟨HBW.out.1, hbl.out⟩ K3.out X3.out GA5.out)
                have HB5 := hid_of (Nat.lt_of_lt_of_le hb3 hsz5)
                have HM1 : Hid ((match w5.cell? ⟨b2, 1, none⟩ with | some (.int .i64 o) => (nn : Int) - o | _ => 0).toNat = nn - o2) := hid_of (by rw [I5.out.at1.1]; simp only []; omega)
                have HM0 : Hid ((match wr.cell? ⟨b2, 1, none⟩ with | some (.int .i64 o) => (nn : Int) - o | _ => 0).toNat = nn - o) := hid_of (by rw [HC1.out]; simp only []; omega)
                clear kr hb3
                go_roundw
                case rel => exact ⟨o2, _, _, by rw [List.length_append, List.length_singleton, ← HP.out, HO2.out]; omega, I5, K5, HB5, hid_of (by
                  rw [HQ.out, List.length_append, List.length_singleton, ← HP.out, show d.length + 1 - (p + 1) = f by have := HF.out; omega])⟩
                case measure => rw [HM1.out, HM0.out, HO2.out]; have := HON.out; omega
    · have es : sq ≠ jnB := fun e => hj ((strs_jn hnr).1 (hsq.symm.trans e))
      have e1 : (sq.toList == [106, 111, 117, 114, 110, 97, 108]) = false := beq_eq_false_iff_ne.2 (fun e => es (toList_inj (e.trans jnB_list.symm)))
      have HH : Hid (holdsF H A = none) := hid_of (by rw [holds_hd, hHF, if_neg hj]; rfl)
      clear r1 r2 b1 b2 hs1 hs2 hz hz' I2 CU hnm hst1 hnn hst2 hsq hnr hn1 hn2 hw1 hw2 sz2 hHF hj es SAA
      go_enter Try.func25, Try.ntmps25
      go_wp2_with (first
        | (go_at_call 44; rw [← HW1.out]; ((with_reducible refine (CZ.out).mono ?_); (rintro e w2 ⟨rfl, rfl⟩)))
        | (go_at_call 45; (try rw [sz1]); rw [← HW2.out]; ((with_reducible refine (CT.out).mono ?_); (rintro e w3 ⟨rfl, q1, q2⟩)); have I3 := hid_of q1; have B3 := hid_of (HKB.out _ _ q2 BE2.out); have K3 := hid_of q2; clear q1 q2)
        | (go_at_call 46; ((with_reducible refine (CU1.out w3 I3.out).mono ?_); (rintro e w4 ⟨rfl, q1, q2⟩)); have I4 := hid_of q1; have B4 := hid_of (HKB.out _ _ q2 B3.out); have K4 := hid_of q2; obtain ⟨c1', _, c3⟩ := I4.out.at1; have CZ2 := hid_of (CZ2G.out w4 B4.out); clear q1 q2))
      go_ret2
      exact Or.inr ⟨HH.out, rfl, B4.out⟩
end Go.Proofs.Ytofmijebinnejaa

/- A disk that is filled from one row of bytes. Bounds on sizes alone. -/
namespace Go.Proofs.Ytofmijebinnejaa
open Go.RowKit
set_option maxRecDepth 100000
set_option maxHeartbeats 3200000

theorem zeroCells_u8 (k : Nat) : (Builtin.zeroCells (Value.int .u8 0).cells k).toList = by8 (List.replicate k 0) := by
  have h : ∀ i : Nat, [Value.int .u8 0][i % 1]?.getD default = Value.int .u8 0 := fun i => by rw [Nat.mod_one]; rfl
  unfold Builtin.zeroCells by8
  simp [Value.cells, h, List.map_const']
/-- append(row, make([]byte, k)...). -/
theorem wpList_appz {ops : Array Oper} {rest : List Oper} {o : Oper} {a : Act} {w : World} {Q : Exit → Act → World → Prop} (hgd : o.guard = none) (s x : Operand)
    (ho : o.op = .call { callee := .builtin .append, args := #[s, x], argTypes := #[46, 3] })
    {wA : World} {v : Value} {L : List Int} (hv : a.eval s = v) (H : EO wA w v L) {k : Nat} (hx : a.eval x = .int .i64 k) (h0 : 0 < k) (hl : L.length + k ≤ 1000000)
    (h : ∀ (ao : Option Addr) (n cap : Nat) (w' : World), n = L.length + k → EO wA w' (.slice ao n cap) (L ++ List.replicate k 0) → wpList Try.prog ops Q rest (a.put o.dst (.slice ao n cap)) w') :
    wpList Try.prog ops Q (o :: rest) a w := by
  obtain ⟨i0, hi, hz0, hz1, hz2⟩ := info_parts u8E.info
  refine wpList_plain hgd fun _ hK => ?_
  have hown := Ow.own H
  rw [by8_length] at hown
  obtain ⟨v', w', hr, h2, h3⟩ := run_append_zeros_own (P := Try.prog) w wA.heap.size 46 3 o.type 5 i0 (.int .u8 0) 1 .i64 .i64 u8E.und (by kernel_rfl) hi hz0 hz1 hz2 u8E.one (fun k u hu => by rw [zeroCells_u8] at hu; exact by8_cells _ u hu) v L.length (by8 L) hown k h0 hl (by omega) (Ow.size H)
  obtain ⟨ao, cap, rfl⟩ := own_shape h2
  have e : by8 L ++ (Builtin.zeroCells (Value.int .u8 0).cells k).toList = by8 (L ++ List.replicate k 0) := by rw [zeroCells_u8]; unfold by8; rw [List.map_append]
  have H2 : EO wA w' (.slice ao (L.length + k) cap) (L ++ List.replicate k 0) := by
    have h4 := Ow.app H h2 (by rw [by8_length, zeroCells_u8, by8_length, List.length_replicate]) h3
    rw [e] at h4
    exact h4
  unfold Oper.wp execOp
  simp only [ho, resolve, invoke, builtin, Sem.run_bind, Sem.run_pure, Result.andThen_ok, List.map_toArray, List.map_cons, List.map_nil, hv, hx, hr]
  exact hK _ _ (h ao _ cap w' rfl H2)
/-- The sector s of the bytes D. -/
def chk (D : List Int) (z s : Nat) : List Int := (D.drop (s * z)).take z
theorem chk_len {D : List Int} {n z s : Nat} (h : D.length = n * z) (hs : s < n) : (chk D z s).length = z := by
  have h1 : (s + 1) * z ≤ n * z := Nat.mul_le_mul_right z hs
  rw [Nat.add_mul, Nat.one_mul] at h1
  rw [chk, List.length_take, List.length_drop, h]
  omega
theorem chk_byt {D : List Int} {z s : Nat} (h : Byt D) : Byt (chk D z s) := fun x hx => h x (List.mem_of_mem_drop (List.mem_of_mem_take hx))
/-- The disk behind i writes. -/
def mI (n z : Nat) (D : List Int) (i : Nat) : DM := { newF n z with cache := (List.range i).map fun s => (s, chk D z s) }
theorem mI_write {n z : Nat} {D : List Int} {i : Nat} (h : D.length = n * z) (hi : i < n) : writeF (mI n z D i) (i : Nat) (chk D z i) = (0, mI n z D (i + 1)) := by
  have h1 := nf_write_eq (M := mI n z D i) (new_nf n z) (s := i) (l := chk D z i) (by show i < (newF n z).secs.length; rw [new_secs]; exact hi) (chk_len h hi)
  rw [h1]
  simp [mI, List.range_succ]
theorem put_secs (n z : Nat) (D : List Int) : ∀ i, i ≤ n → ∀ s, s < n → (putF (List.replicate n (List.replicate z 0)) ((List.range i).map fun s => (s, chk D z s))).getD s [] = if s < i then chk D z s else List.replicate z 0
  | 0, _, s, hs => by simp [putF, List.getD_eq_getElem?_getD, hs]
  | i + 1, hi, s, hs => by
    rw [List.range_succ, List.map_append, putF_append]
    show ((putF _ _).set i (chk D z i)).getD s [] = _
    by_cases e : i = s
    · subst e
      rw [getD_set (by rw [putF_len, List.length_replicate]; omega), if_pos (by omega)]
    · rw [getD_ne e, put_secs n z D i (by omega) s hs]
      by_cases h9 : s < i
      · rw [if_pos h9, if_pos (by omega)]
      · rw [if_neg h9, if_neg (by omega)]
/-- The disk behind them all. -/
def mF (n z : Nat) (D : List Int) : DM := flat (mI n z D n)
theorem mF_sync (n z : Nat) (D : List Int) : syncF (mI n z D n) = (0, mF n z D) := nf_sync_eq (new_nf n z)
theorem mF_len (n z : Nat) (D : List Int) : (mF n z D).secs.length = n := by rw [mF, flat_len]; exact new_secs n z
theorem mF_get {n z : Nat} {D : List Int} {s : Nat} (hs : s < n) : (mF n z D).secs.getD s [] = chk D z s := by
  have h1 := put_secs n z D n (Nat.le_refl _) s hs
  rw [if_pos hs] at h1
  exact h1
theorem mF_rng {n z : Nat} {D : List Int} (hb : Byt D) : RngM (mF n z D) := by
  refine ⟨fun l hl => ?_, fun p hp => by cases hp⟩
  obtain ⟨s, hs, e⟩ := List.mem_iff_getElem.1 hl
  have h1 := mF_get (n := n) (z := z) (D := D) (s := s) (by rw [mF_len] at hs; exact hs)
  rw [List.getD_eq_getElem?_getD, List.getElem?_eq_getElem hs, e] at h1
  have h2 : l = chk D z s := h1
  rw [h2]
  exact chk_byt hb
theorem area_chk (D : List Int) (z f : Nat) : ∀ k, areaF (fun i => chk D z (f + 1 + i)) k = (D.drop ((f + 1) * z)).take (k * z)
  | 0 => by simp [areaF]
  | k + 1 => by
    rw [areaF, area_chk D z f k, chk, Nat.add_mul k 1 z, Nat.one_mul, List.take_add, List.drop_drop]
    congr 3
    rw [Nat.add_mul (f + 1) k z]
theorem mF_holds {n z : Nat} {D : List Int} {f c : Nat} (hr : f + c ≤ n ∧ 2 ≤ c) : holdsD (mF n z D) f c = holdsF (chk D z f) ((D.drop ((f + 1) * z)).take ((c - 1) * z)) := by
  rw [holdsD, mF_get (by omega), areaF_congr (c - 1) fun i hi => mF_get (n := n) (z := z) (D := D) (s := f + 1 + i) (by omega), area_chk]
section
variable {B : Nat} {T : Nat → Prop} {w : World} {b : Nat} {M : DM}
theorem DR.sync (h : DR B T w b M) (t : TR B T w) (hc : M.cache.length ≤ 1000000) :
    Calls Try.prog 28 #[.pointer (some ⟨b, 0, none⟩)] w fun e w' => e = .returned (.int .i64 (syncF M).1) ∧ DR B T w' b (syncF M).2 ∧ Below B w w' ∧ Keeps T w w' := by
  obtain ⟨SD, h1, h2⟩ := h
  exact (IG.sync hc h1).mono fun e w' ⟨q1, q2, q3⟩ => ⟨q1, dr_next t h2 q2 q3⟩
theorem DR.arg (h : DR B T w b M) (first count : Int) (h1 : R64 first) (h2 : R64 count) (hno : ¬ (2 ≤ count ∧ 0 ≤ first ∧ count ≤ M.secs.length - first)) :
    Calls Try.prog 15 #[.pointer (some ⟨b, 0, none⟩), .int .i64 first, .int .i64 count] w fun e w' => e = .returned (.tuple #[.pointer none, .int .i64 1]) ∧ Below w.heap.size w w' := by
  obtain ⟨SD, h3, _⟩ := h
  exact open_arg SD w b M first count h1 h2 h3 hno
theorem DR.none {fs ct : Nat} (h : DR B T w b M) (hreg : fs + ct ≤ M.secs.length ∧ 2 ≤ ct) (hz : 16 ≤ M.sz) (hr : RngM M) (hc : M.cache = []) (ho : M.off = false) (hy : holdsD M fs ct = none) :
    Calls Try.prog 15 #[.pointer (some ⟨b, 0, none⟩), .int .i64 fs, .int .i64 ct] w fun e w' => e = .returned (.tuple #[.pointer none, .int .i64 12]) ∧ Below w.heap.size w w' := by
  obtain ⟨SD, h1, h2⟩ := h
  exact open_no SD w b M fs ct h1 (fun k hk => (h2 k hk).2.1) hreg ho hz (rd_ok (IG.ok h1) hr hc ho hreg) (by rw [hc]; show 0 ≤ _; omega) (by rw [holds_rd hc ho hreg]; exact hy)
end
theorem cr_eo {wA W : World} {v : Value} {D : List Int} (h : EO wA W v D) (hl : D.length ≤ 1000000) : CR (fun k => wA.heap.size ≤ k ∧ k < W.heap.size) W v D := by
  refine ⟨h.rdd (by omega), fun h0 a n c e => ?_⟩
  have h1 := (Ow.own h).lt
  rw [e] at h1
  exact h1 a.block rfl
end Go.Proofs.Ytofmijebinnejaa

/- The law's region: the head and the area, read. Bounds on sizes alone. -/
namespace Go.Proofs.Ytofmijebinnejaa
open Go.RowKit
set_option maxRecDepth 100000
set_option maxHeartbeats 6400000

theorem region_any {B : Nat} {T : Nat → Prop} {w : World} {b : Nat} {M : DM} (fs ct : Nat) (h : DR B T w b M) (hreg : fs + ct ≤ M.secs.length ∧ 2 ≤ ct) (ho : M.off = false) (hc : M.cache.length ≤ 1000000) (hg : RdOk M fs ct) (hs : ct ≤ 1000 ∧ M.sz ≤ 1000) :
    Calls Try.prog 24 #[.pointer (some ⟨b, 0, none⟩), .int .i64 fs, .int .i64 ct] w fun e w' => ∃ x1 n1 c1 x2 n2 c2, e = .returned (.tuple #[.slice x1 n1 c1, .slice x2 n2 c2]) ∧ Rd w' (.slice x1 n1 c1) (by8 (headC M fs)) ∧ Rd w' (.slice x2 n2 c2) (by8 (areaC M fs ct)) ∧ Below w.heap.size w w' := by
  obtain ⟨SD, hd, hSD⟩ := h
  have hok := IG.ok hd
  have hsec := hok.secs
  have CRD := hid_of (fun (X : World) (hX : Below w.heap.size w X) (s : Nat) (hs : s < M.secs.length) => show Calls Try.prog 33 #[.pointer (some ⟨b, 0, none⟩), .int .i64 s] X (fun e w' => ∃ x n c, e = .returned (.tuple #[.slice x n c, .int .i64 0]) ∧ Rd w' (.slice x n c) (by8 (readF M s).1) ∧ Below X.heap.size X w') from by
    have h1 := (IG.read (s : Int) ⟨by omega, by omega⟩ hc (IG.keep hd ⟨hX.size, fun k hk hl => hX.block k hl⟩)).mono fun e w' q => q.1
    have h2 : (readF M (s : Int)).2 = 0 := by
      have hf : M.fits s = true := by simp only [DM.fits, decide_eq_true_eq]; omega
      rw [readF, if_neg (by rw [hf]; simp), if_neg (by rw [ho]; simp)]
    rw [h2] at h1
    exact h1)
  have CR0 := hid_of (show Calls Try.prog 33 #[.pointer (some ⟨b, 0, none⟩), .int .i64 fs] w (fun e w' => ∃ x n c, e = .returned (.tuple #[.slice x n c, .int .i64 0]) ∧ Rd w' (.slice x n c) (by8 (headC M fs)) ∧ Below w.heap.size w w') from CRD.out w (Below.refl _ _) fs (by omega))
  have HAL := hid_of (fun (k : Nat) (hk : k ≤ ct - 1) => show (areaF (secC M fs) k).length = k * M.sz from areaF_len k fun i hi => hg.sl i (by omega))
  have HSL := hid_of hg.sl
  have HS := hid_of hs
  have HRG := hid_of hreg
  have HSC := hid_of hsec
  have ct9 : ct ≤ 1000 := hs.1
  have fs9 : fs ≤ 65536 := by omega
  clear hd hSD hok hc hg hs hreg hsec ho
  go_enter Try.func24, Try.ntmps24
  go_wp2_with (first
    | (go_at_call 33; ((with_reducible refine (CR0.out).mono ?_); (rintro e w1 ⟨x1, n1, c1, rfl, q1, q2⟩)); have H1 := hid_of q1; have B1 := hid_of q2; clear q1 q2))
  go_loopw [9, 10, 11] (fun ev av iv wr => ∃ (i : Nat) (ao : Option Addr) (m cap : Nat), 1 ≤ i ∧ i ≤ ct ∧ iv = .int .i64 i ∧ ev = .int .i64 0 ∧ av = .slice ao m cap ∧ Hid (EO w1 wr (.slice ao m cap) (areaF (secC M fs) (i - 1)))) (fun _ _ iv _ => ct - (intOf iv).toNat)
  case atStart => exact ⟨1, _, _, _, Nat.le_refl _, by have := HRG.out; omega, rfl, rfl, rfl, hid_of (by show EO w1 _ _ (areaF (secC M fs) 0); exact ow_empty _ _)⟩
  case round =>
    obtain ⟨i, ao, m, cap, hi1, hi, rfl, rfl, rfl, he⟩ := hrel
    by_cases hlt : i < ct
    · have d1 : decide (i < ct) = true := decide_eq_true hlt
      have hlt' : (i : Int) < (ct : Int) := by omega
      obtain ⟨sc, hsc⟩ : ∃ sc, sc = fs + i := ⟨_, rfl⟩
      have a1 := wrap_add hsc (by omega)
      have HB := hid_of (B1.out.trans (he.out.bel.mono B1.out.size))
      have CRS := hid_of (CRD.out wr HB.out sc (by have := HRG.out; omega))
      obtain ⟨q, hq⟩ : ∃ q, q = (readF M sc).1 := ⟨_, rfl⟩
      rw [← hq] at CRS
      have hqs : q = secC M fs (i - 1) := by rw [hq, secC, show fs + 1 + (i - 1) = sc by omega]
      have HQS := hid_of hqs
      have HNX : Hid (areaF (secC M fs) (i - 1) ++ q = areaF (secC M fs) i) := hid_of (by
        rw [hqs]
        conv => rhs; rw [show i = (i - 1) + 1 by omega]
        rfl)
      have HLT := hid_of hlt
      have HLN : Hid ((by8 (areaF (secC M fs) (i - 1))).length ≤ 1000000 ∧ (by8 q).length ≤ 1000) := hid_of (by
        have h1 := HAL.out (i - 1) (by omega)
        have h2 := HSL.out (i - 1) (by omega)
        have h3 := HS.out
        have h4 : (i - 1) * M.sz ≤ 1000 * 1000 := Nat.mul_le_mul (by omega) h3.2
        rw [by8_length, by8_length, h1, hqs, h2]
        omega)
      clear hq hqs hlt hsc
      go_wp2_with (first
        | (go_at_call 33; ((with_reducible refine (CRS.out).mono ?_); (rintro e w2 ⟨x2, n2, c2, rfl, q1, q2⟩)); have R2 := hid_of q1; have E2 := hid_of (EO.later he.out q2); clear q1 q2)
        | (at_builtin; (refine wpList_app u8E rfl _ _ rfl (v := .slice ao m cap) (l := by8 (areaF (secC M fs) (i - 1))) rfl E2.out (vx := .slice x2 n2 c2) (m := by8 q) rfl R2.out (by8_cells _) (by have := HLN.out; omega) (by have := HLN.out; omega) ?_); intro xo3 n3 c3 w3 hn3 h3; have E3 : Hid (EO w1 w3 (.slice xo3 n3 c3) (areaF (secC M fs) i)) := hid_of (by unfold EO; rw [← HNX.out, by8_app]; exact h3); clear h3 hn3))
      go_roundw
      case rel => exact ⟨i + 1, _, _, _, by omega, HLT.out, by go_num, rfl, rfl, E3⟩
      case measure => have := HLT.out; simp [intOf]; omega
    · obtain rfl : i = ct := by omega
      have d1 : decide (i < i) = false := by simp
      go_wp2
      go_ret2
      have hb := he.out.bel
      exact ⟨_, _, _, _, _, _, rfl, H1.out.at hb, he.out.rdd (by have := HAL.out (i - 1) (Nat.le_refl _); have h3 := HS.out; have h4 : (i - 1) * M.sz ≤ 1000 * 1000 := Nat.mul_le_mul (by omega) h3.2; omega), B1.out.trans (hb.mono B1.out.size)⟩
theorem RB.new {T : Nat → Prop} {X w' : World} {v : Value} {R : List (List Int)} (h : RB (fun k => X.heap.size ≤ k) w' v R) : RB (Tn T X w') w' v R := by
  obtain ⟨xs, p1, p2, p3, p4⟩ := h
  refine ⟨xs, p1, fun h0 a c d e2 => ?_, p3, fun i y l hy hl => ?_⟩
  · exact Or.inr ⟨p2 h0 a c d e2, p1.inlt h0 a c d e2⟩
  · exact (p4 i y l hy hl).lt.mono fun k hk => Or.inr hk
end Go.Proofs.Ytofmijebinnejaa
