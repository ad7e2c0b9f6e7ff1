/- The chapter's examples. No condition but that the package's variables are as they were laid. -/
import Derived.Test.YtdmjlmlmdllhgaaDoorLexTxt
namespace Go.Proofs.YtdmjlmlmdllhgaaDoor
open Go.RowKit

theorem qrd_lit {w : World} {l : List QV} {n g : Nat} {cs : Array Value} {E : TypeId} {m : Nat × Nat} (hg : g = w.heap.size) (hn : n = l.length) (hc : cs = (qds l).toArray) (hl : l.length ≤ 1000) : QRd (w.alloc (.cells cs E m)) (.slice (some ⟨g, 0, none⟩) n n) l := by
  subst hg hn hc
  refine ⟨_, _, rfl, Nat.le_refl _, by omega, fun _ => ⟨_, _, rfl, by simp, fun i t hi => ?_⟩⟩
  have hb := heap_alloc_new w (.cells (qds l).toArray E m)
  obtain ⟨h1, h2, h3, h4⟩ := qds_get l i t hi
  have q : ∀ j u, (qds l)[j]? = some u → (w.alloc (.cells (qds l).toArray E m)).cell? ⟨w.heap.size, 0 + j, none⟩ = some u := fun j u hu => by
    have := World.news_of_block hb j u (by simpa using hu)
    rw [Addr.add_mid] at this
    exact this
  exact ⟨q _ _ h1, q _ _ h2, q _ _ h3, q _ _ h4⟩
def srcA : ByteArray := ⟨#[111, 98, 106, 101, 99, 116, 32, 99, 97, 114, 116, 45, 49, 32, 58, 32, 115, 101, 116, 59, 32, 35, 32, 109, 121, 32, 99, 97, 114, 116]⟩
def srcB : ByteArray := ⟨#[120, 32, 39, 115, 101, 116]⟩
def srcC : ByteArray := ⟨#[97, 32, 45, 32, 49]⟩
def srcD : ByteArray := ⟨#[97, 10, 98, 99]⟩
theorem lexA : Lx srcA 0 = ([⟨2, ⟨#[111, 98, 106, 101, 99, 116]⟩, 0, 0⟩, ⟨1, ⟨#[99, 97, 114, 116, 45, 49]⟩, 0, 7⟩, ⟨5, ⟨#[58]⟩, 0, 14⟩, ⟨2, ⟨#[115, 101, 116]⟩, 0, 16⟩, ⟨5, ⟨#[59]⟩, 0, 19⟩, ⟨6, ⟨#[]⟩, 0, 30⟩], 0, 0) := by kernel_rfl
theorem lexB : Lx srcB 0 = ([], 2, 2) := by kernel_rfl
theorem nexC : nextF srcC 1 = ⟨5, ⟨#[45]⟩, 0, 3, 0⟩ := by kernel_rfl
theorem skC : sk srcC 1 = 2 := by kernel_rfl
theorem lcD : lc srcD 3 = (2, 2) := by kernel_rfl
theorem kwE : kw ⟨#[108, 101, 113]⟩ = true := by kernel_rfl
theorem sgE : sgn ⟨#[61, 62]⟩ = true := by kernel_rfl
def tokT : List T4 := [⟨1, ⟨#[97]⟩, 0, 0⟩, ⟨3, ⟨#[]⟩, 12, 0⟩, ⟨6, ⟨#[]⟩, 0, 0⟩]
theorem txT : txF tokT = (⟨#[97, 32, 49, 50]⟩, 0) := by kernel_rfl
theorem lenT : (Lib.join ((words tokT.dropLast).map (·.data.toList)) [32]).length = 4 := by kernel_rfl
theorem AW3 {w w1 w2 w3 : World} {a b : Array Value} {t t2 : TypeId} (h1 : Below w.heap.size w w1) (h2 : Below (w1.alloc (.cells a t)).heap.size (w1.alloc (.cells a t)) w2) (h3 : Below (w2.heap.size + 1) (w2.alloc (.cells b t2)) w3) : Below w.heap.size w w3 := by
  have q1 := h1.trans ((bel_alloc w1 (.cells a t)).mono h1.size)
  have q2 := q1.trans (h2.mono q1.size)
  have q3 := q2.trans ((bel_alloc w2 (.cells b t2)).mono q2.size)
  have := h3.size
  exact q3.trans (h3.mono (by have := q2.size; omega))
theorem AW4 {w w1 w2 w3 w4 : World} {g o : Nat} {x y : Value} (_ : Below w.heap.size w w1) (hc : ∀ w2, Below w1.heap.size w1 w2 → w2.cell? ⟨g, o + 4 + 1, none⟩ = some x ∧ w2.cell? ⟨g, o + 20 + 3, none⟩ = some y) (h2 : Below (w1.alloc (.cells #[.int .i64 0, .int .i64 0] 28)).heap.size (w1.alloc (.cells #[.int .i64 0, .int .i64 0] 28)) w2) (h3 : Below (w2.heap.size + 1) (w2.alloc (.cells #[.int .i64 2, .int .i64 2] 28)) w3) (h4 : Below w3.heap.size w3 w4) (o1 o2 : Obj) :
    ((w4.alloc o1).alloc o2).cell? ⟨w1.heap.size, 0, none⟩ = some (.int .i64 0) ∧ ((w4.alloc o1).alloc o2).cell? ⟨w2.heap.size, 0, none⟩ = some (.int .i64 2) ∧ ((w4.alloc o1).alloc o2).cell? ⟨w2.heap.size, 1, none⟩ = some (.int .i64 2) ∧ ((w4.alloc o1).alloc o2).cell? ⟨g, o + 4 + 1, none⟩ = some x ∧ ((w4.alloc o1).alloc o2).cell? ⟨g, o + 20 + 3, none⟩ = some y := by
  have z1 : (w1.alloc (.cells #[.int .i64 0, .int .i64 0] 28)).heap.size = w1.heap.size + 1 := by simp
  have z2 : (w2.alloc (.cells #[.int .i64 2, .int .i64 2] 28)).heap.size = w2.heap.size + 1 := by simp
  have s2 := h2.size
  have s3 := h3.size
  have s4 := h4.size
  have t5 := (h4.mono (Nat.le_refl _)).trans (bel_two w4 o1 o2 |>.mono s4)
  have t4 : Below (w2.heap.size + 1) (w2.alloc (.cells #[.int .i64 2, .int .i64 2] 28)) ((w4.alloc o1).alloc o2) := h3.trans (t5.mono (by omega))
  have t3 : Below w2.heap.size w2 ((w4.alloc o1).alloc o2) := (bel_alloc w2 _).trans (t4.mono (by omega))
  have t2 : Below (w1.heap.size + 1) (w1.alloc (.cells #[.int .i64 0, .int .i64 0] 28)) ((w4.alloc o1).alloc o2) := by
    rw [z1] at h2
    exact h2.trans (t3.mono (by omega))
  have t1 : Below w1.heap.size w1 ((w4.alloc o1).alloc o2) := (bel_alloc w1 _).trans (t2.mono (by omega))
  obtain ⟨c1, _, _, _⟩ := row2 ((t2.block w1.heap.size (by omega)).trans (heap_alloc_new w1 _))
  obtain ⟨d1, d2, _, _⟩ := row2 ((t4.block w2.heap.size (by omega)).trans (heap_alloc_new w2 _))
  obtain ⟨a1, a2⟩ := hc _ t1
  exact ⟨c1, d1, d2, a1, a2⟩
theorem awA (w : World) (hG : Glob w) : Calls Tryd.prog 21 #[.string ⟨#[111, 98, 106, 101, 99, 116, 32, 99, 97, 114, 116, 45, 49, 32, 58, 32, 115, 101, 116, 59, 32, 35, 32, 109, 121, 32, 99, 97, 114, 116]⟩] w fun e w1 => ∃ g o xc, e = .returned (.tuple #[.slice (some ⟨g, o, none⟩) 6 xc, .agg #[.int .i64 0, .int .i64 0]]) ∧ Below w.heap.size w w1 ∧ ∀ w2, Below w1.heap.size w1 w2 → w2.cell? ⟨g, o + 4 + 1, none⟩ = some (.string ⟨#[99, 97, 114, 116, 45, 49]⟩) ∧ w2.cell? ⟨g, o + 20 + 3, none⟩ = some (.int .i64 30) := by
  refine (lex_any srcA w (by decide) hG).mono fun e w1 h => ?_
  have h2 := h.2 (by rw [lexA])
  rw [lexA] at h2
  obtain ⟨xo, xc, h3, h4⟩ := h2
  have R := h4.qrd
  have e1 : (tqs [⟨2, ⟨#[111, 98, 106, 101, 99, 116]⟩, 0, 0⟩, ⟨1, ⟨#[99, 97, 114, 116, 45, 49]⟩, 0, 7⟩, ⟨5, ⟨#[58]⟩, 0, 14⟩, ⟨2, ⟨#[115, 101, 116]⟩, 0, 16⟩, ⟨5, ⟨#[59]⟩, 0, 19⟩, ⟨6, ⟨#[]⟩, 0, 30⟩])[1]? = some (tq ⟨1, ⟨#[99, 97, 114, 116, 45, 49]⟩, 0, 7⟩) := rfl
  have e5 : (tqs [⟨2, ⟨#[111, 98, 106, 101, 99, 116]⟩, 0, 0⟩, ⟨1, ⟨#[99, 97, 114, 116, 45, 49]⟩, 0, 7⟩, ⟨5, ⟨#[58]⟩, 0, 14⟩, ⟨2, ⟨#[115, 101, 116]⟩, 0, 16⟩, ⟨5, ⟨#[59]⟩, 0, 19⟩, ⟨6, ⟨#[]⟩, 0, 30⟩])[5]? = some (tq ⟨6, ⟨#[]⟩, 0, 30⟩) := rfl
  obtain ⟨g, o, rfl, _⟩ := R.get e1
  refine ⟨g, o, xc, h3, h4.bel, fun w2 hb => ?_⟩
  obtain ⟨g1, o1, q1, _, q2, _⟩ := (R.at hb).get e1
  obtain ⟨g2, o2, r1, _, _, _, r2⟩ := (R.at hb).get e5
  simp only [Option.some.injEq, Addr.mk.injEq, and_true] at q1 r1
  obtain ⟨rfl, rfl⟩ := q1
  obtain ⟨rfl, rfl⟩ := r1
  exact ⟨q2, r2⟩
theorem awB (w : World) (hG : Glob w) : Calls Tryd.prog 21 #[.string ⟨#[120, 32, 39, 115, 101, 116]⟩] w fun e w1 => e = .returned (.tuple #[.slice none 0 0, .agg #[.int .i64 2, .int .i64 2]]) ∧ Below w.heap.size w w1 := by
  refine (lex_any srcB w (by decide) hG).mono fun e w1 h => ?_
  have h2 := h.1 (by rw [lexB]; decide)
  rw [lexB] at h2
  exact h2
theorem awC (w : World) (hG : Glob w) : Calls Tryd.prog 19 #[.string ⟨#[97, 32, 45, 32, 49]⟩, .int .i64 1] w fun e w1 => e = .returned (.tuple #[.agg #[.int .i64 5, .string ⟨#[45]⟩, .int .i64 0, .int .i64 2], .int .i64 3, .agg #[.int .i64 0, .int .i64 0]]) ∧ Below w.heap.size w w1 := by
  refine (nex_any srcC 1 w (by decide) (by decide) hG).mono fun e w1 h => ?_
  have h2 := h.1 (by rw [nexC])
  rw [nexC, skC] at h2
  exact ⟨h2, h.2.2⟩
theorem awD (w : World) : Calls Tryd.prog 27 #[.string ⟨#[97, 10, 98, 99]⟩, .int .i64 3] w (PlcP 2 2 w) := by
  have h := place_any srcD 3 w (by decide) (by decide)
  rw [lcD] at h
  exact h
theorem awE (w : World) (hG : Glob w) : Calls Tryd.prog 15 #[.string ⟨#[108, 101, 113]⟩] w fun e w1 => e = .returned (.bool true) ∧ w = w1 := by
  have h := keyword_any ⟨#[108, 101, 113]⟩ w hG
  rw [kwE] at h
  exact h.mono fun _ _ h => ⟨h.1, h.2.symm⟩
theorem awF (w : World) (hG : Glob w) : Calls Tryd.prog 17 #[.string ⟨#[61, 62]⟩] w fun e w1 => e = .returned (.bool true) ∧ w = w1 := by
  have h := sign_any ⟨#[61, 62]⟩ w hG
  rw [sgE] at h
  exact h.mono fun _ _ h => ⟨h.1, h.2.symm⟩
theorem tokT_sm : ∀ t ∈ tokT, Sm t := by
  intro t ht
  simp only [tokT, List.mem_cons, List.not_mem_nil, or_false] at ht
  rcases ht with rfl | rfl | rfl <;> exact ⟨by decide, by decide, by decide⟩
theorem awG (w : World) (o : Obj) (hG : Glob w) : Calls Tryd.prog 24 #[.slice (some ⟨w.heap.size + 1, 0, none⟩) 3 3] ((w.alloc o).alloc (.cells #[.int .i64 1, .string ⟨#[97]⟩, .int .i64 0, .int .i64 0, .int .i64 3, .string ⟨#[]⟩, .int .i64 12, .int .i64 0, .int .i64 6, .string ⟨#[]⟩, .int .i64 0, .int .i64 0] 25)) fun e w1 => e = .returned (.tuple #[.string ⟨#[97, 32, 49, 50]⟩, .int .i64 0]) ∧ Below (w.heap.size + 1) (w.alloc o) w1 := by
  have hb := bel_alloc (w.alloc o) (.cells #[.int .i64 1, .string ⟨#[97]⟩, .int .i64 0, .int .i64 0, .int .i64 3, .string ⟨#[]⟩, .int .i64 12, .int .i64 0, .int .i64 6, .string ⟨#[]⟩, .int .i64 0, .int .i64 0] 25)
  have h := text_any tokT (some ⟨w.heap.size + 1, 0, none⟩) 3 3 ((w.alloc o).alloc (.cells #[.int .i64 1, .string ⟨#[97]⟩, .int .i64 0, .int .i64 0, .int .i64 3, .string ⟨#[]⟩, .int .i64 12, .int .i64 0, .int .i64 6, .string ⟨#[]⟩, .int .i64 0, .int .i64 0] 25)) (qrd_lit (by simp) rfl rfl (by decide)) tokT_sm ((hG.at (bel_alloc w o)).at hb) (by decide) (by rw [lenT]; decide)
  refine h.mono fun e w1 ⟨h1, h2⟩ => ?_
  rw [txT] at h1
  refine ⟨h1, ?_⟩
  have h3 := hb.trans (h2.mono hb.size)
  rw [show (w.alloc o).heap.size = w.heap.size + 1 by simp] at h3
  exact h3
set_option maxRecDepth 100000 in
set_option maxHeartbeats 3200000 in
theorem awake_any (w : World) (hG : Glob w) : Calls Tryd.prog 14 #[] w (BlP true w) := by
  have LA := hid_of (awA w hG)
  have LB : Hid (∀ w1, Below w.heap.size w w1 → Calls Tryd.prog 21 #[.string ⟨#[120, 32, 39, 115, 101, 116]⟩] w1 fun e w2 => e = .returned (.tuple #[.slice none 0 0, .agg #[.int .i64 2, .int .i64 2]]) ∧ Below w1.heap.size w1 w2) := hid_of (fun w1 h => awB w1 (hG.at h))
  have LC : Hid (∀ w1, Below w.heap.size w w1 → Calls Tryd.prog 19 #[.string ⟨#[97, 32, 45, 32, 49]⟩, .int .i64 1] w1 fun e w2 => e = .returned (.tuple #[.agg #[.int .i64 5, .string ⟨#[45]⟩, .int .i64 0, .int .i64 2], .int .i64 3, .agg #[.int .i64 0, .int .i64 0]]) ∧ Below w1.heap.size w1 w2) := hid_of (fun w1 h => awC w1 (hG.at h))
  have LD := hid_of awD
  have LE : Hid (∀ w1, Below w.heap.size w w1 → Calls Tryd.prog 15 #[.string ⟨#[108, 101, 113]⟩] w1 fun e w2 => e = .returned (.bool true) ∧ w1 = w2) := hid_of (fun w1 h => awE w1 (hG.at h))
  have LF : Hid (∀ w1, Below w.heap.size w w1 → Calls Tryd.prog 17 #[.string ⟨#[61, 62]⟩] w1 fun e w2 => e = .returned (.bool true) ∧ w1 = w2) := hid_of (fun w1 h => awF w1 (hG.at h))
  have LG : Hid (∀ w1 o, Below w.heap.size w w1 → Calls Tryd.prog 24 #[.slice (some ⟨w1.heap.size + 1, 0, none⟩) 3 3] ((w1.alloc o).alloc (.cells #[.int .i64 1, .string ⟨#[97]⟩, .int .i64 0, .int .i64 0, .int .i64 3, .string ⟨#[]⟩, .int .i64 12, .int .i64 0, .int .i64 6, .string ⟨#[]⟩, .int .i64 0, .int .i64 0] 25)) fun e w2 => e = .returned (.tuple #[.string ⟨#[97, 32, 49, 50]⟩, .int .i64 0]) ∧ Below (w1.heap.size + 1) (w1.alloc o) w2) := hid_of (fun w1 o h => awG w1 o (hG.at h))
  have HB : Hid (∀ w1 o, Below w.heap.size w w1 → Below w.heap.size w (w1.alloc o)) := hid_of (fun w1 o h => h.trans ((bel_alloc w1 o).mono h.size))
  clear hG
  go_enter Tryd.func14, Tryd.ntmps14
  go_wp2_with (first
    | (go_at_call 21; (first
      | ((with_reducible refine (LA.out).mono ?_); (rintro e w1 ⟨g, o, xc, rfl, h1, h2⟩; have B1 := hid_of h1; have C1 := hid_of h2; have LB1 := hid_of (LB.out _ (HB.out w1 (.cells #[.int .i64 0, .int .i64 0] 28) h1)); clear h1 h2))
      | ((with_reducible refine (LB1.out).mono ?_); (rintro e w2 ⟨rfl, h1⟩; have B2 := hid_of h1; have LG2 := hid_of (LG.out w2 (.cells #[.int .i64 2, .int .i64 2] 28) ((HB.out w1 _ B1.out).trans (h1.mono (HB.out w1 _ B1.out).size))); clear h1))))
    | (go_at_call 24; ((with_reducible refine (LG2.out).mono ?_); (rintro e w3 ⟨rfl, h1⟩; have B3 := hid_of h1; have A3 := hid_of (AW3 B1.out B2.out h1); have LC3 := hid_of (LC.out w3 A3.out); clear h1)))
    | (go_at_call 19; ((with_reducible refine (LC3.out).mono ?_); (rintro e w4 ⟨rfl, h1⟩; have B4 := hid_of h1; have A4 := hid_of (A3.out.trans (h1.mono A3.out.size)); have A5 := hid_of (HB.out _ (.cells #[.int .i64 0, .int .i64 0] 28) (HB.out w4 (.cells #[.int .i64 5, .string ⟨#[45]⟩, .int .i64 0, .int .i64 2] 25) A4.out)); obtain ⟨f10, f20, f21, a1, a5⟩ := AW4 B1.out C1.out B2.out B3.out h1 (.cells #[.int .i64 5, .string ⟨#[45]⟩, .int .i64 0, .int .i64 2] 25) (.cells #[.int .i64 0, .int .i64 0] 28); clear h1)))
    | (go_at_call 27; ((with_reducible refine (LD.out _).mono ?_); (rintro e w' ⟨rfl, rfl⟩)))
    | (go_at_call 15; ((with_reducible refine (LE.out _ A5.out).mono ?_); (rintro e w' ⟨rfl, rfl⟩)))
    | (go_at_call 17; ((with_reducible refine (LF.out _ A5.out).mono ?_); (rintro e w' ⟨rfl, rfl⟩))))
  go_ret
  exact ⟨rfl, A5.out⟩
end Go.Proofs.YtdmjlmlmdllhgaaDoor
