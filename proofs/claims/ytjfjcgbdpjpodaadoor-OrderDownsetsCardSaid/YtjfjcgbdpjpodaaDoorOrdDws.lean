/- downsets of package order, over what a visit keeps. Bounds on sizes alone. -/
import Derived.Test.YtjfjcgbdpjpodaaDoorOrdExt
import Derived.Laws.EntriesVeiled
namespace Go.Proofs.YtjfjcgbdpjpodaaDoor
open Go.RowKit

/-- Nothing has turned but the blocks S, rows of rows of numbers, and new blocks; below lo nothing at all. -/
structure KX (lo : Nat) (S : Nat → Prop) (w w' : World) : Prop where
  os : w'.os = w.os
  tape : w'.tape = w.tape
  output : w'.output = w.output
  size : w.heap.size ≤ w'.heap.size
  low : ∀ k, k < lo → w'.heap[k]? = w.heap[k]?
  ty : ∀ k, k < w.heap.size → ¬ S k → (∀ cur, w.heap[k]? ≠ some (.cells cur 36 (0, 0))) → w'.heap[k]? = w.heap[k]?
section
variable {lo : Nat} {S : Nat → Prop} {w w1 w2 : World}
theorem KX.refl (lo : Nat) (S : Nat → Prop) (w : World) : KX lo S w w := ⟨rfl, rfl, rfl, Nat.le_refl _, fun _ _ => rfl, fun _ _ _ _ => rfl⟩
theorem KX.trans (h : KX lo S w w1) (h2 : KX lo S w1 w2) : KX lo S w w2 :=
  ⟨h2.os.trans h.os, h2.tape.trans h.tape, h2.output.trans h.output, Nat.le_trans h.size h2.size, fun k hk => (h2.low k hk).trans (h.low k hk),
    fun k h1 hl ht => by
      have e := h.ty k h1 hl ht
      exact (h2.ty k (Nat.lt_of_lt_of_le h1 h.size) hl (fun cur => by rw [e]; exact ht cur)).trans e⟩
theorem KX.ofBelow (h : Below w.heap.size w w1) (hl : lo ≤ w.heap.size) : KX lo S w w1 :=
  ⟨h.os, h.tape, h.output, h.size, fun k hk => h.block k (by omega), fun k hk _ _ => h.block k hk⟩
theorem KX.below (h : KX lo S w w1) : Below lo w w1 := ⟨h.os, h.tape, h.output, h.size, h.low⟩
theorem KX.blk (h : KX lo S w w1) {k t : Nat} {cs : Array Value} {m : Nat × Nat} (hk : w.heap[k]? = some (.cells cs t m)) (ht : t ≠ 36) (hs : ¬ S k) : w1.heap[k]? = some (.cells cs t m) := by
  rw [h.ty k (lt_of_block hk) hs (fun cur e => by rw [hk] at e; simp only [Option.some.injEq, Obj.cells.injEq] at e; exact ht e.2.1), hk]
end

set_option maxRecDepth 100000 in
set_option maxHeartbeats 3200000 in
theorem dws_any (b n gv lo N : Nat) (S : Nat → Prop) (lbs : Array Value) (A B : Nat → Nat) (eg : ∀ args w, (callFunc gv args).run Tryd.prog w = .ok (.enter gv args) w) (hA : ∀ i, A i < M64) (hB : ∀ i, B i < M64) (ok : List Nat → Bool) (J : List Nat → World → Prop)
    (w : World) (h : RL w b n A B) (hn : n ≤ 64) (hb : b < lo) (hlo : lo ≤ w.heap.size) (hT : Tb w) (hS : ∀ k, S k → k < w.heap.size) (hJB : ∀ d wx wy, J d wx → Below wx.heap.size wx wy → J d wy) (hJ0 : J [] w)
    (hV : ∀ d c wx, d.length < N → c < M64 → J d wx → Tb wx → w.heap.size ≤ wx.heap.size → Calls Tryd.prog gv (#[.int .u64 (c : Nat)] ++ lbs) wx fun e w' => e = .returned (.bool (ok (d ++ [c]))) ∧ J (d ++ [c]) w' ∧ KX lo S wx w')
    (hN : (ext A B 64 0 0 (allS n)).length ≤ N) :
    Calls Tryd.prog 57 #[.pointer (some ⟨b, 0, none⟩), .func (.func gv) #[] lbs] w fun e w' => e = .returned (.bool (prc ok [] (ext A B 64 0 0 (allS n))).2) ∧ J (prc ok [] (ext A B 64 0 0 (allS n))).1 w' ∧ KX lo S w w' := by
  have H := hid_of h
  have HN := hid_of hn
  have hmf : ∀ (fn : Fn) (first cap : Array Value) (w : World), (Instr.makeFunc fn first cap).run Tryd.prog w = .ok (.func fn first cap) w := fun _ _ _ _ => rfl
  obtain ⟨W3, hW3⟩ : ∃ W3, W3 = ((w.alloc (.cells #[.pointer (some ⟨b, 0, none⟩)] 52)).alloc (.cells #[.func (.func gv) #[] lbs] 77)).alloc (.cells #[.func (.func 77) #[] #[.pointer (some ⟨w.heap.size + 1, 0, none⟩), .pointer (some ⟨w.heap.size + 1 + 1, 0, none⟩), .pointer (some ⟨w.heap.size, 0, none⟩)]] 83) := ⟨_, rfl⟩
  have z1 : (w.alloc (.cells #[.pointer (some ⟨b, 0, none⟩)] 52)).heap.size = w.heap.size + 1 := by simp
  have z2 : ((w.alloc (.cells #[.pointer (some ⟨b, 0, none⟩)] 52)).alloc (.cells #[.func (.func gv) #[] lbs] 77)).heap.size = w.heap.size + 1 + 1 := by simp
  have B1 := bel_alloc w (.cells #[.pointer (some ⟨b, 0, none⟩)] 52)
  have B2 := bel_alloc (w.alloc (.cells #[.pointer (some ⟨b, 0, none⟩)] 52)) (.cells #[.func (.func gv) #[] lbs] 77)
  have B3 := bel_alloc ((w.alloc (.cells #[.pointer (some ⟨b, 0, none⟩)] 52)).alloc (.cells #[.func (.func gv) #[] lbs] 77)) (.cells #[.func (.func 77) #[] #[.pointer (some ⟨w.heap.size + 1, 0, none⟩), .pointer (some ⟨w.heap.size + 1 + 1, 0, none⟩), .pointer (some ⟨w.heap.size, 0, none⟩)]] 83)
  have n1 := heap_alloc_new w (.cells #[.pointer (some ⟨b, 0, none⟩)] 52)
  have n2 := heap_alloc_new (w.alloc (.cells #[.pointer (some ⟨b, 0, none⟩)] 52)) (.cells #[.func (.func gv) #[] lbs] 77)
  have n3 := heap_alloc_new ((w.alloc (.cells #[.pointer (some ⟨b, 0, none⟩)] 52)).alloc (.cells #[.func (.func gv) #[] lbs] 77)) (.cells #[.func (.func 77) #[] #[.pointer (some ⟨w.heap.size + 1, 0, none⟩), .pointer (some ⟨w.heap.size + 1 + 1, 0, none⟩), .pointer (some ⟨w.heap.size, 0, none⟩)]] 83)
  rw [z1] at B2 n2
  rw [z2] at B3 n3
  rw [← hW3] at B3 n3
  have H1 : Hid (Below w.heap.size w W3 ∧ W3.heap[w.heap.size]? = some (.cells #[.pointer (some ⟨b, 0, none⟩)] 52 (0, 0)) ∧ W3.heap[w.heap.size + 1]? = some (.cells #[.func (.func gv) #[] lbs] 77 (0, 0)) ∧ W3.heap[w.heap.size + 1 + 1]? = some (.cells #[.func (.func 77) #[] #[.pointer (some ⟨w.heap.size + 1, 0, none⟩), .pointer (some ⟨w.heap.size + 1 + 1, 0, none⟩), .pointer (some ⟨w.heap.size, 0, none⟩)]] 83 (0, 0))) := hid_of
    ⟨B1.trans ((B2.mono (by omega)).trans (B3.mono (by omega))), (B3.block _ (by omega)).trans ((B2.block _ (by omega)).trans n1), (B3.block _ (by omega)).trans n2, n3⟩
  clear z1 z2 B1 B2 B3 n1 n2 n3
  obtain ⟨rv, hrv⟩ : ∃ rv, rv = w.heap.size := ⟨_, rfl⟩
  obtain ⟨vb, hvb⟩ : ∃ vb, vb = w.heap.size + 1 := ⟨_, rfl⟩
  obtain ⟨xb, hxb⟩ : ∃ xb, xb = w.heap.size + 1 + 1 := ⟨_, rfl⟩
  have HNB : Hid (¬ S rv ∧ ¬ S vb ∧ ¬ S xb ∧ lo ≤ W3.heap.size) := hid_of ⟨fun h1 => by have := hS _ h1; omega, fun h1 => by have := hS _ h1; omega, fun h1 => by have := hS _ h1; omega, by have := H1.out.1.size; omega⟩
  have H1r : Hid (W3.heap[rv]? = some (.cells #[.pointer (some ⟨b, 0, none⟩)] 52 (0, 0))) := hid_of (by rw [hrv]; exact H1.out.2.1)
  have H1v : Hid (W3.heap[vb]? = some (.cells #[.func (.func gv) #[] lbs] 77 (0, 0))) := hid_of (by rw [hvb]; exact H1.out.2.2.1)
  have H1x : Hid (W3.heap[xb]? = some (.cells #[.func (.func 77) #[] #[.pointer (some ⟨vb, 0, none⟩), .pointer (some ⟨xb, 0, none⟩), .pointer (some ⟨rv, 0, none⟩)]] 83 (0, 0))) := hid_of (by rw [hxb, hvb, hrv]; exact H1.out.2.2.2)
  have HB1 := hid_of H1.out.1
  have HI : ∀ d wx, (J d wx ∧ KX lo S W3 wx) → ExI b n vb xb rv gv lbs A B wx := fun d wx hx => ⟨by
      have h1 : RL W3 b n A B := h.at HB1.out
      unfold RL at h1 ⊢
      rw [hx.2.low b hb]; exact h1, (hT.at HB1.out).later hx.2.below (by omega), blk_cell (cs := [.func (.func gv) #[] lbs]) (hx.2.blk H1v.out (by decide) HNB.out.2.1) rfl,
    blk_cell (cs := [.func (.func 77) #[] #[.pointer (some ⟨vb, 0, none⟩), .pointer (some ⟨xb, 0, none⟩), .pointer (some ⟨rv, 0, none⟩)]]) (hx.2.blk H1x.out (by decide) HNB.out.2.2.1) rfl, blk_cell (cs := [.pointer (some ⟨b, 0, none⟩)]) (hx.2.blk H1r.out (by decide) HNB.out.1) rfl⟩
  have HST : J [] W3 ∧ KX lo S W3 W3 := ⟨hJB _ _ _ hJ0 HB1.out, KX.refl _ _ _⟩
  have HEX : Hid (∀ wx, J [] wx ∧ KX lo S W3 wx → Calls Tryd.prog 77 #[.int .u64 0, .int .u64 0, .int .u64 (allS n : Nat), .pointer (some ⟨vb, 0, none⟩), .pointer (some ⟨xb, 0, none⟩), .pointer (some ⟨rv, 0, none⟩)] wx fun e w' => e = .returned (.bool (prc ok [] (ext A B 64 0 0 (allS n))).2) ∧ J (prc ok [] (ext A B 64 0 0 (allS n))).1 w' ∧ KX lo S W3 w') := hid_of (fun wx hx =>
    ext_any b n vb xb rv gv lbs A B eg hA hB ok (fun d wx => J d wx ∧ KX lo S W3 wx) N HI (fun d wx k hx => ⟨hJB _ _ _ hx.1 (bel_drewN (Below.refl _ _) k), hx.2.trans (KX.ofBelow (bel_drewN (Below.refl _ _) k) (Nat.le_trans HNB.out.2.2.2 hx.2.size))⟩)
      (fun d c wx hdn hc hx => (hV d c wx hdn hc hx.1 (HI d wx hx).tb (Nat.le_trans HB1.out.size hx.2.size)).mono fun e w' ⟨h1, h2, h3⟩ => ⟨h1, h2, hx.2.trans h3⟩)
      65 64 (by omega) 0 0 (allS n) [] wx (by decide) (by decide) (allS_lt n) (els_len _) (by simpa using hN) hx)
  have HX3 := hid_of (HI [] W3 HST)
  have HS3 := hid_of HST
  have HJD : Hid (∀ wx, wx = W3.drew → J [] wx ∧ KX lo S W3 wx) := hid_of (fun wx e => by subst e; exact ⟨hJB _ _ _ HST.1 (Below.refl _ _).drew, KX.ofBelow (Below.refl _ _).drew HNB.out.2.2.2⟩)
  have HKW : Hid (KX lo S w W3) := hid_of (KX.ofBelow HB1.out hlo)
  obtain ⟨P1, hP1⟩ : ∃ P, P = prc ok [] (ext A B 64 0 0 (allS n)) := ⟨_, rfl⟩
  rw [← hP1] at HEX ⊢
  have HAL : Hid (∀ wx, wx = W3.drew → Calls Tryd.prog 47 #[.pointer (some ⟨b, 0, none⟩)] wx fun x w' => x = .returned (.int .u64 (allS n : Nat)) ∧ wx = w') := hid_of (fun wx e => all_any b n A B wx (by subst e; exact HX3.out.rl) HN.out)
  obtain ⟨al, hal⟩ : ∃ al, al = allS n := ⟨_, rfl⟩
  rw [← hal] at HEX HAL
  clear hP1 hal HI HST h hn hT hS hJB hJ0 hV hN hA hB hb hlo
  go_enter Tryd.func57, Tryd.ntmps57
  go_wp2
  rw [← hW3, ← hxb, ← hvb, ← hrv]
  clear hW3 hxb hvb hrv
  have k1 := HX3.out.x
  have k2 := HX3.out.r
  refine wp_region_still_tail 3 (by kernel_rfl) (by kernel_rfl) ?_
  simp only [List.take_succ_cons, List.take_zero, List.drop_succ_cons, List.drop_zero]
  repeat still_step
  refine wpStill_step (fun K hK => ?_)
  go_simp
  refine ⟨_, still_of (HAL.out _ rfl), hK _ ?_⟩
  clear hK K
  repeat still_step
  refine wpStill_nil ?_
  have HEZ := hid_of (HEX.out _ (HJD.out _ rfl))
  change wpList _ _ _ _ _ W3.drew
  generalize W3.drew = w6 at *
  go_wp2_with (go_at_call 77; ((with_reducible refine (HEZ.out).mono ?_); (rintro ee w7 ⟨rfl, h7, h8⟩; have H7 := hid_of h7; have H8 := hid_of h8; clear h7 h8)))
  go_ret
  exact ⟨rfl, H7.out, HKW.out.trans H8.out⟩
end Go.Proofs.YtjfjcgbdpjpodaaDoor
