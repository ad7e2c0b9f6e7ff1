/- mix: the state that a block makes of the state before it. Bounds on the words; the package's constants lie where they were laid. -/
import Derived.Test.YtogfgcihhnblkaaDoorShaExtend
import Derived.Deep.MidRow
import Derived.Deep.Draws
namespace Go.Proofs.YtogfgcihhnblkaaDoor
open Go.RowKit

/-- The constants of the definition. -/
def KON : List Int := [1116352408, 1899447441, 3049323471, 3921009573, 961987163, 1508970993, 2453635748, 2870763221, 3624381080, 310598401, 607225278, 1426881987, 1925078388, 2162078206, 2614888103, 3248222580, 3835390401, 4022224774, 264347078, 604807628, 770255983, 1249150122, 1555081692, 1996064986, 2554220882, 2821834349, 2952996808, 3210313671, 3336571891, 3584528711, 113926993, 338241895, 666307205, 773529912, 1294757372, 1396182291, 1695183700, 1986661051, 2177026350, 2456956037, 2730485921, 2820302411, 3259730800, 3345764771, 3516065817, 3600352804, 4094571909, 275423344, 430227734, 506948616, 659060556, 883997877, 958139571, 1322822218, 1537002063, 1747873779, 1955562222, 2024104815, 2227730452, 2361852424, 2428436474, 2756734187, 3204031479, 3329325298]
def INI : List Int := [1779033703, 3144134277, 1013904242, 2773480762, 1359893119, 2600822924, 528734635, 1541459225]

/-- The package's two variables are as they were laid. -/
def Glob (w : World) : Prop := w.rangeAt 0 0 (ws INI) ∧ w.rangeAt 1 0 (ws KON)
theorem Glob.bel {w w' : World} {B : Nat} (h : Glob w) (hb : Below B w w') (hB : 2 ≤ B) : Glob w' :=
  ⟨fun j v hv => (hb.cell (p := ⟨0, 0 + j, none⟩) (by show 0 < B; omega)).trans (h.1 j v hv), fun j v hv => (hb.cell (p := ⟨1, 0 + j, none⟩) (by show 1 < B; omega)).trans (h.2 j v hv)⟩
theorem Glob.two {w : World} (h : Glob w) : 2 ≤ w.heap.size := by
  have := World.block_lt_of_cell? w _ (h.2 0 _ rfl)
  simp at this
  omega
theorem Glob.kon {w : World} (h : Glob w) {t : Nat} (ht : t < 64) : w.cell? ⟨1, t, none⟩ = some (.int .u32 (KON.getD t 0)) := by
  have hl : KON.length = 64 := rfl
  have := h.2 t (.int .u32 (KON.getD t 0)) (by simp [ws, List.getD, List.getElem?_eq_getElem (show t < KON.length by omega)])
  rwa [Nat.zero_add] at this
theorem kon_w : ∀ t, W32 (KON.getD t 0) := by
  intro t
  by_cases ht : t < 64
  · have : ∀ x ∈ KON, W32 x := by
      have h : KON.all (fun x => decide (0 ≤ x) && decide (x ≤ 4294967295)) = true := by decide
      intro x hx
      have := List.all_eq_true.1 h x hx
      simp at this
      exact this
    have hl : KON.length = 64 := rfl
    have hlt : t < KON.length := by omega
    have e : KON.getD t 0 = KON[t] := by rw [List.getD_eq_getElem?_getD, List.getElem?_eq_getElem hlt]; rfl
    rw [e]; exact this _ (List.getElem_mem _)
  · have hl : KON.length = 64 := rfl
    have e : KON.getD t 0 = 0 := by simp [List.getD, List.getElem?_eq_none (show KON.length ≤ t by omega)]
    rw [e]; unfold W32; omega

structure R8 where
  a : Int
  b : Int
  c : Int
  d : Int
  e : Int
  f : Int
  g : Int
  h : Int
def R8.ok (s : R8) : Prop := W32 s.a ∧ W32 s.b ∧ W32 s.c ∧ W32 s.d ∧ W32 s.e ∧ W32 s.f ∧ W32 s.g ∧ W32 s.h
def t1F (K W : Int) (s : R8) : Int := ad (ad (ad (ad s.h (up1 s.e)) (cho s.e s.f s.g)) K) W
def t2F (s : R8) : Int := ad (up0 s.a) (maj s.a s.b s.c)
def rnd (K W : Int) (s : R8) : R8 := ⟨ad (t1F K W s) (t2F s), s.a, s.b, s.c, ad s.d (t1F K W s), s.e, s.f, s.g⟩
def rnds (W : List Int) : Nat → R8 → R8
  | 0, s => s
  | t + 1, s => rnd (KON.getD t 0) (W.getD t 0) (rnds W t s)
theorem rnds_ok (W : List Int) : ∀ t s, s.ok → (rnds W t s).ok := by
  intro t; induction t with
  | zero => intro s h; exact h
  | succ t ih =>
    intro s h
    obtain ⟨h1, h2, h3, h4, h5, h6, h7, h8⟩ := ih s h
    exact ⟨ad_w _ _, h1, h2, h3, ad_w _ _, h5, h6, h7⟩
def mixF (s : R8) (B : List Int) : R8 :=
  let r := rnds (extW B) 64 s
  ⟨ad s.a r.a, ad s.b r.b, ad s.c r.c, ad s.d r.d, ad s.e r.e, ad s.f r.f, ad s.g r.g, ad s.h r.h⟩
def R8.vals (s : R8) : Array Value := #[.int .u32 s.a, .int .u32 s.b, .int .u32 s.c, .int .u32 s.d, .int .u32 s.e, .int .u32 s.f, .int .u32 s.g, .int .u32 s.h]

theorem extN_w : ∀ k l, (∀ y ∈ l, W32 y) → ∀ y ∈ extN k l, W32 y := by
  intro k; induction k with
  | zero => intro l h; exact h
  | succ k ih =>
    intro l h y hy
    rw [extN] at hy
    rcases List.mem_append.1 hy with hy | hy
    · exact ih l h y hy
    · simp at hy; subst hy; exact ad_w _ _
theorem extW_w (B : List Int) (t : Nat) : W32 ((extW B).getD t 0) := by
  have h0 : ∀ y ∈ extW B, W32 y := extN_w 48 _ (by
    intro y hy
    simp only [ext0, List.mem_map] at hy
    obtain ⟨j, _, rfl⟩ := hy
    exact be32_w B j)
  by_cases ht : t < (extW B).length
  · have e : (extW B).getD t 0 = (extW B)[t] := by simp [List.getD, ht]
    rw [e]; exact h0 _ (List.getElem_mem _)
  · have e : (extW B).getD t 0 = 0 := by simp [List.getD, List.getElem?_eq_none (show (extW B).length ≤ t by omega)]
    rw [e]; unfold W32; omega
theorem extW_length (B : List Int) : (extW B).length = 64 := by simp [extW, extN_length, ext0_length]

section
variable {P : Program}
/-- A whole array into a block that was made last. -/
theorem wpList_store_fresh {ops : Array Oper} {rest : List Oper} {o : Oper} {a : Act} {w : World} {Q : Exit → Act → World → Prop} (hgd : o.guard = none) (ty : TypeId) (x y : Operand) (ho : o.op = .store ty x y)
    (g : Nat) (cells : Array Value) (hx : a.eval x = .pointer (some ⟨g, 0, none⟩)) (hy : a.eval y = .agg cells) (hg0 : g = w.heap.size)
    (old : Array Value) (hi : (P.info? ty).map (·.size) = some cells.size) (hold : old.size = cells.size) (h1 : cells.all (·.oneCell') = true)
    (h : wpList P ops Q rest (a.put o.dst undef) (w.alloc (.cells cells ty))) : wpList P ops Q (o :: rest) a (w.alloc (.cells old ty)) := by
  subst hg0
  refine wpList_store_row hgd ty x y ho w.heap.size cells hx hy ty old (heap_alloc_new _ _) hi hold h1 ?_
  rw [World.setRow_alloc_new]
  exact h
end

theorem Bytes64.lt {w : World} {b o : Nat} {B : List Int} (h : Bytes64 w b o B) : b < w.heap.size := by
  obtain ⟨_, _, _, _, hc⟩ := h 0 (by omega); exact World.block_lt_of_cell? w _ hc
theorem Bytes64.later {w w' : World} {b o : Nat} {B : List Int} (h : Bytes64 w b o B) (hb : Below w.heap.size w w') : Bytes64 w' b o B := fun j hj => by
  obtain ⟨y, h1, h2, h3, h4⟩ := h j hj
  exact ⟨y, h1, h2, h3, (hb.cell (p := ⟨b, o + j, none⟩) h.lt).trans h4⟩
theorem bel_two {w : World} (o1 o2 : Obj) : Below w.heap.size w ((w.alloc o1).alloc o2) := ((Below.refl _ _).alloc (Nat.le_refl _) _).alloc (by simp) _
/-- Where mix stands behind the words: the box of the state, the result's block, the words. -/
structure MixW (w w2 : World) (s : R8) (arr : Array Value) (g : Nat) : Prop where
  box : w2.heap[w.heap.size]? = some (.cells s.vals 66 (0, 0))
  res : w2.heap[w.heap.size + 1]? = some (.cells (ws (List.replicate 8 0)).toArray 66 (0, 0))
  row : w2.heap[g]? = some (.cells arr 80 (0, 0))
  glob : Glob w2
  bel : Below w.heap.size w w2
theorem MixW.drewN {w w2 : World} {s : R8} {arr : Array Value} {g : Nat} (h : MixW w w2 s arr g) (n : Nat) : MixW w (w2.drewN n) s arr g :=
  ⟨h.box, h.res, h.row, h.glob, ⟨h.bel.os, h.bel.tape, h.bel.output, h.bel.size, h.bel.block⟩⟩
theorem mixw_start {w w1 : World} {s : R8} {arr : Array Value} (hG : Glob w) (h : Below (((w.alloc (.cells s.vals 66)).alloc (.cells (ws (List.replicate 8 0)).toArray 66))).heap.size ((w.alloc (.cells s.vals 66)).alloc (.cells (ws (List.replicate 8 0)).toArray 66)) w1) :
    MixW w (w1.alloc (.cells arr 80)) s arr w1.heap.size := by
  have hs : w.heap.size + 2 ≤ w1.heap.size := by have := h.size; simp at this; omega
  have hb : Below w.heap.size w w1 := (bel_two _ _).trans (h.mono (by simp; omega))
  refine ⟨?_, ?_, heap_alloc_new _ _, hG.bel (hb.alloc hb.size _) hG.two, hb.alloc hb.size _⟩
  · rw [Below.heap_alloc _ _ _ (by omega), h.block _ (by simp; omega), heap_alloc2_old]
  · rw [Below.heap_alloc _ _ _ (by omega), h.block _ (by simp), heap_alloc2_new]
theorem quiet_left {P : Program} {f : FuncId} {args : Array Value} {w : World} {n : Nat} {v : Value}
    (h : Calls P f args (w.drewN n) fun e w' => e = .returned v ∧ w.drewN n = w') : Calls P f args (w.drewN n) fun e w'' => e = .returned v ∧ ∃ m, w'' = w.drewN m :=
  h.mono fun _ _ ⟨he, hw⟩ => ⟨he, n, hw.symm⟩
theorem Tryd.info8 : (Tryd.prog.info? 66).map (·.size) = some 8 := by kernel_rfl
theorem ok8 (a b c d e f g h : Int) : (#[.int .u32 a, .int .u32 b, .int .u32 c, .int .u32 d, .int .u32 e, .int .u32 f, .int .u32 g, .int .u32 h] : Array Value).all (·.oneCell') = true := ws_one [a, b, c, d, e, f, g, h]
theorem u32_eq {a b : Int} (h : a = b) : Value.int .u32 a = Value.int .u32 b := by rw [h]
theorem extend_arr (b o : Nat) (B : List Int) (arr : Array Value) (w : World) (harr : arr = (ws (extW B)).toArray) (h : Bytes64 w b o B) :
    Calls Tryd.prog 50 #[.pointer (some ⟨b, o, none⟩)] w fun e w' => e = .returned (.agg arr) ∧ Below w.heap.size w w' := by
  subst harr; exact extend_any b o B w h

set_option maxRecDepth 100000 in
set_option maxHeartbeats 1600000 in
theorem mix_any (s : R8) (b o : Nat) (B : List Int) (w : World) (hs : s.ok) (h : Bytes64 w b o B) (hG : Glob w) :
    Calls Tryd.prog 45 #[.agg s.vals, .pointer (some ⟨b, o, none⟩)] w fun e w' => e = .returned (.agg (mixF s B).vals) ∧ Below w.heap.size w w' := by
  have HB := hid_of h
  have HG := hid_of hG
  have HS := hid_of hs
  obtain ⟨⟨a0, a1⟩, ⟨b0, b1⟩, ⟨c0, c1⟩, ⟨d0, d1⟩, ⟨e0, e1⟩, ⟨f0, f1⟩, ⟨g0, g1⟩, ⟨h0, h1⟩⟩ := hs
  clear h hG
  obtain ⟨arr, harr⟩ : ∃ arr, arr = (ws (extW B)).toArray := ⟨_, rfl⟩
  have HARR := hid_of harr
  have HSZ : Hid (arr.size = 64) := hid_of (by rw [harr]; simp [ws]; exact extW_length B)
  have HI : Hid ((Tryd.prog.info? 80).map (·.size) = some arr.size) := hid_of (by rw [HSZ.out]; exact Tryd.info64)
  have H1 : Hid (arr.all (·.oneCell') = true) := hid_of (by rw [harr]; exact ws_one _)
  clear harr
  unfold R8.vals
  go_enter Tryd.func45, Tryd.ntmps45
  go_wp2_with (first
    | (go_at_call 50; refine (extend_arr b o B arr _ HARR.out (HB.out.later (bel_two _ _))).mono ?_; rintro e w1 ⟨rfl, h1⟩; have HB1 := hid_of h1; have hz1 : w.heap.size + 2 ≤ w1.heap.size := (by have := h1.size; simp at this; omega); clear h1)
    | (refine wpList_store_fresh rfl 80 (.tmp 5) (.tmp 18) rfl _ arr rfl rfl rfl _ HI.out (by rw [HSZ.out]; rfl) H1.out ?_))
  have hM := mixw_start (s := s) (arr := arr) HG.out HB1.out
  generalize w1.alloc (.cells arr 80) = w2 at *
  have q0 := cell_of_row _ _ 0 _ _ _ hM.box
  have q1 := cell_of_row _ _ 1 _ _ _ hM.box
  have q2 := cell_of_row _ _ 2 _ _ _ hM.box
  have q3 := cell_of_row _ _ 3 _ _ _ hM.box
  have q4 := cell_of_row _ _ 4 _ _ _ hM.box
  have q5 := cell_of_row _ _ 5 _ _ _ hM.box
  have q6 := cell_of_row _ _ 6 _ _ _ hM.box
  have q7 := cell_of_row _ _ 7 _ _ _ hM.box
  simp only [R8.vals] at q0 q1 q2 q3 q4 q5 q6 q7
  have HM := hid_of hM
  clear hM
  go_quiet (fail)
  go_wp2
  go_quiet (fail)
  go_wp2
  clear q0 q1 q2 q3 q4 q5 q6 q7
  go_loopw [6, 7, 8, 9, 10, 11, 12, 13, 35] (fun va vb vc vd ve vf vg vh iv wr => ∃ (t : Nat) (r : R8), t ≤ 64 ∧ iv = .int .i64 t ∧ va = .int .u32 r.a ∧ vb = .int .u32 r.b ∧ vc = .int .u32 r.c ∧ vd = .int .u32 r.d ∧ ve = .int .u32 r.e ∧ vf = .int .u32 r.f ∧ vg = .int .u32 r.g ∧ vh = .int .u32 r.h ∧
      Hid (r = rnds (extW B) t s) ∧ Hid (MixW w wr s arr w1.heap.size)) (fun _ _ _ _ _ _ _ _ iv _ => 64 - (intOf iv).toNat)
  case atStart => exact ⟨0, s, by omega, rfl, rfl, rfl, rfl, rfl, rfl, rfl, rfl, rfl, hid_of rfl, hid_of ((HM.out.drewN _).drewN _)⟩
  case round =>
    obtain ⟨t, r, ht, rfl, rfl, rfl, rfl, rfl, rfl, rfl, rfl, rfl, hr, hm⟩ := hrel
    have hok : r.ok := by rw [hr.out]; exact rnds_ok _ _ _ HS.out
    obtain ⟨oa, ob, oc, od, oe, of, og, oh⟩ := id hok
    by_cases hlt : t < 64
    · have kc := hm.out.glob.kon hlt
      have kw := kon_w t
      obtain ⟨kv, hkv⟩ : ∃ kv, kv = KON.getD t 0 := ⟨_, rfl⟩
      rw [← hkv] at kc kw
      have wc : wr.cell? ⟨w1.heap.size, t, none⟩ = some (.int .u32 ((extW B).getD t 0)) := by
        rw [cell_of_row _ _ _ _ _ _ hm.out.row, HARR.out]
        have := extW_length B
        simp [ws, List.getD, show t < (extW B).length by omega]
      have ww := extW_w B t
      obtain ⟨wv, hwv⟩ : ∃ wv, wv = (extW B).getD t 0 := ⟨_, rfl⟩
      rw [← hwv] at wc ww
      have HKV := hid_of hkv
      have HWV := hid_of hwv
      have bt : (t : Int) < 64 := by omega
      obtain ⟨kw0, kw1⟩ := kw
      obtain ⟨ww0, ww1⟩ := ww
      clear hkv hwv hok
      go_wp2
      go_quiet ((first
        | (go_at_call 51; exact quiet_left (upper1_any r.e _ oe))
        | (go_at_call 52; exact quiet_left (choose_any r.e r.f r.g _ oe of og))))
      go_wp2_with (first
        | (go_at_call 53; refine (upper0_any r.a _ oa).mono ?_; rintro e w' ⟨rfl, rfl⟩)
        | (go_at_call 54; refine (majority_any r.a r.b r.c _ oa ob oc).mono ?_; rintro e w' ⟨rfl, rfl⟩))
      go_roundw
      case rel =>
        refine ⟨t + 1, rnd kv wv r, by omega, by go_num, ?_, rfl, rfl, rfl, ?_, rfl, rfl, rfl, ?_, hid_of (hm.out.drewN _)⟩
        · exact u32_eq (by simp only [rnd, t1F, t2F]; unfold ad; omega)
        · exact u32_eq (by simp only [rnd, t1F]; unfold ad; omega)
        · exact hid_of (by rw [hr.out, HKV.out, HWV.out]; rfl)
      case measure => simp [intOf]; omega
    · obtain rfl : t = 64 := by omega
      have q0 := cell_of_row _ _ 0 _ _ _ hm.out.box
      have q1 := cell_of_row _ _ 1 _ _ _ hm.out.box
      have q2 := cell_of_row _ _ 2 _ _ _ hm.out.box
      have q3 := cell_of_row _ _ 3 _ _ _ hm.out.box
      have q4 := cell_of_row _ _ 4 _ _ _ hm.out.box
      have q5 := cell_of_row _ _ 5 _ _ _ hm.out.box
      have q6 := cell_of_row _ _ 6 _ _ _ hm.out.box
      have q7 := cell_of_row _ _ 7 _ _ _ hm.out.box
      simp only [R8.vals] at q0 q1 q2 q3 q4 q5 q6 q7
      obtain ⟨oa0, oa1⟩ := oa
      obtain ⟨ob0, ob1⟩ := ob
      obtain ⟨oc0, oc1⟩ := oc
      obtain ⟨od0, od1⟩ := od
      obtain ⟨oe0, oe1⟩ := oe
      obtain ⟨of0, of1⟩ := of
      obtain ⟨og0, og1⟩ := og
      obtain ⟨oh0, oh1⟩ := oh
      clear hok
      go_wp2_with (refine wpList_store_row rfl 66 (.tmp 4) (.tmp 107) rfl (w.heap.size + 1) #[.int .u32 ((s.a + r.a) % 4294967296), .int .u32 ((s.b + r.b) % 4294967296), .int .u32 ((s.c + r.c) % 4294967296), .int .u32 ((s.d + r.d) % 4294967296), .int .u32 ((s.e + r.e) % 4294967296), .int .u32 ((s.f + r.f) % 4294967296), .int .u32 ((s.g + r.g) % 4294967296), .int .u32 ((s.h + r.h) % 4294967296)] rfl rfl 66 _ hm.out.res Tryd.info8 rfl (ok8 _ _ _ _ _ _ _ _) ?_)
      have hfin : #[.int .u32 ((s.a + r.a) % 4294967296), .int .u32 ((s.b + r.b) % 4294967296), .int .u32 ((s.c + r.c) % 4294967296), .int .u32 ((s.d + r.d) % 4294967296), .int .u32 ((s.e + r.e) % 4294967296), .int .u32 ((s.f + r.f) % 4294967296), .int .u32 ((s.g + r.g) % 4294967296), .int .u32 ((s.h + r.h) % 4294967296)] = (mixF s B).vals := by
        unfold mixF
        rw [← hr.out]
        rfl
      rw [hfin]
      refine bodyPost_ret (results_cell_row rfl _ _ (w.heap.size + 1) 66 _ (0, 0) _ rfl (setRow_heap _ _ _ _ _ _ hm.out.res) Tryd.underlying66 rfl Tryd.info8) rfl ⟨rfl, ?_⟩
      exact below_setRow hm.out.bel (Nat.le_succ _) _
end Go.Proofs.YtogfgcihhnblkaaDoor
