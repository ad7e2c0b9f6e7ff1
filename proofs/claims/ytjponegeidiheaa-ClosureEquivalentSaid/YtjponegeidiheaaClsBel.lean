/- walk's closure below. Bounds on sizes alone. -/
import Derived.Test.YtjponegeidiheaaClsWlk
import Derived.Shelf.Abstract
namespace Go.Proofs.Ytjponegeidiheaa
open Go.RowKit

section
variable (c n : Nat) (R : List Hrl) (vb cb bb gv : Nat) (lbs : Array Value) (J : List (List Nat) → (Nat → Prop) → World → Prop) (ok : List (List Nat) → Bool)
/-- What a search from a set leaves. -/
def BelP (d : List (List Nat)) (T : List Nat) (f : Nat) (V : CV) (U JS : Nat → Prop) (w : World) (e : Ending) (w' : World) : Prop :=
  e = .returned (.bool (prc ok d (VV R n T f)).2) ∧ ∃ V' U' JS', Chg (orS U JS) (orS U' JS') w w' ∧ J (prc ok d (VV R n T f)).1 JS' w' ∧ V'.ar = V.ar ∧ ((prc ok d (VV R n T f)).2 = true → St c n R vb cb bb gv lbs J (prc ok d (VV R n T f)).1 T V' U' JS' w')
/-- A round of the search: the names from j on are done. -/
def BlI (d : List (List Nat)) (T : List Nat) (V : CV) (U JS : Nat → Prop) (w : World) (gs sc j : Nat) (wr : World) : Prop :=
  ∃ V' U' JS' x, St c n R vb cb bb gv lbs J (prc ok d (VV R n T j)).1 T V' U' JS' wr ∧ V'.ar = V.ar ∧ (prc ok d (VV R n T j)).2 = true ∧ wr.ownsRow 0 3 1 (.slice (some ⟨gs, 0, none⟩) 1 sc) 1 [.int .i64 x] ∧ ¬ U' gs ∧ ¬ JS' gs ∧ Chg (orS U JS) (orS U' JS') w wr
end

/-- append of nothing onto a row of one. -/
theorem wpList_nil {ops : Array Oper} {rest : List Oper} {o : Oper} {a : Act} {w : World} {Q : Exit → Act → World → Prop} (hgd : o.guard = none) (s x : Operand)
    (ho : o.op = .call { callee := .builtin .append, args := #[s, x], argTypes := #[56, 56] })
    (v : Value) (xs : List Value) (hv : a.eval s = v) (hown : w.ownsRow 0 3 1 v 1 xs) (hx : a.eval x = .slice none 0 0)
    (h : ∀ (gs sc : Nat) (w' : World), w'.ownsRow 0 3 1 (.slice (some ⟨gs, 0, none⟩) 1 sc) 1 xs → w.grownBy w' v.ownBlock → (some gs = v.ownBlock ∨ gs = w.heap.size) → wpList Try.prog ops Q rest (a.put o.dst (.slice (some ⟨gs, 0, none⟩) 1 sc)) w') :
    wpList Try.prog ops Q (o :: rest) a w := by
  obtain ⟨i0, hi, hz0, hz1, hz2⟩ := info_parts intsE.info
  refine wpList_append_src _ hgd s x _ _ ho 0 3 i0 (.int .i64 0) 1 8 Try.underlying56 hi hz0 hz1 hz2 rfl (by decide) v 1 xs hv hown _ 0 [] hx (Src.ofNil _ Try.underlying56 0) (by unfold maxLen; omega) (by omega) (Nat.zero_le _) ?_
  intro v2 w2 hown2 hg _ hf
  rw [List.append_nil] at hown2
  rcases hown2.2 with ⟨_, h5⟩ | ⟨gs, sc, cur, rfl, h6, h7, h8⟩
  · omega
  · refine h gs sc w2 ⟨hown2.1, .inr ⟨gs, sc, cur, rfl, h6, h7, h8⟩⟩ hg ?_
    rcases hf with hf | hf
    · exact .inl hf
    · simp only [Value.ownBlock, Option.some.injEq] at hf; exact .inr hf
theorem own_lit (w : World) (x : Int) : (w.alloc (.cells #[.int .i64 x] 3)).ownsRow 0 3 1 (.slice (some ⟨w.heap.size, 0, none⟩) 1 1) 1 [.int .i64 x] :=
  ⟨rfl, .inr ⟨w.heap.size, 1, #[.int .i64 x], rfl, Nat.zero_le _, heap_alloc_new w _, Nat.le_refl _, by unfold maxLen; omega, rfl, rfl⟩⟩

section
variable {c n : Nat} {R : List Hrl} {vb cb bb gv : Nat} {lbs : Array Value} {J : List (List Nat) → (Nat → Prop) → World → Prop} {ok : List (List Nat) → Bool} {d : List (List Nat)} {T : List Nat} {V : CV} {U JS : Nat → Prop} {w wr : World} {gs sc a f : Nat}
/-- A name that is there. -/
theorem BlI.in (h : BlI c n R vb cb bb gv lbs J ok d T V U JS w gs sc (a + 1) wr) (ha : a < n) (hg : Gen R a T) (haT : a ∈ T) : BlI c n R vb cb bb gv lbs J ok d T V U JS w gs sc a wr := by
  unfold BlI
  rw [vv_in ha hg haT]
  exact h
/-- What grow is told, and what it leaves: a name that can be added. -/
theorem BlI.good (hn : n ≤ 1000000) (hJ : ∀ d JS w w', J d JS w → (∀ b, JS b → w'.heap[b]? = w.heap[b]?) → w.heap.size ≤ w'.heap.size → J d JS w') (hw : w.heap.size ≤ gs) (hbx : vb < w.heap.size ∧ cb < w.heap.size ∧ bb < w.heap.size) (har : ∀ (i : Nat) (v : Value), V.ar[i]? = some v → ∀ b, v.ownBlock = some b → b < w.heap.size)
    (h : BlI c n R vb cb bb gv lbs J ok d T V U JS w gs sc (a + 1) wr) (hcl : cldB R T = true) (ha : a < n) (haT : a ∉ T) (hg : Gen R a T) :
    wr.frozen? ⟨gs, 0, none⟩ = false ∧ (∃ x, wr.cell? ⟨gs, 0, none⟩ = some x) ∧ Calls Try.prog 71 #[.pointer (some ⟨c, 0, none⟩), .slice (some ⟨gs, 0, none⟩) 1 sc, .int .i64 a] (wr.setCell ⟨gs, 0, none⟩ (.int .i64 (a : Int))) fun e w3 =>
      ∃ T' k' V2 U2 JS' ok2, e = .returned (.bool ok2) ∧ CH w3 c n R (lackR R (fun _ => 0) (T'.take k')) (memB T') T' k' V2 U2 ∧ V2.ar = V.ar ∧ (∃ X, T' = T ++ X) ∧ T.length ≤ k' ∧ k' ≤ T'.length ∧ w3.ownsRow 0 3 1 (.slice (some ⟨gs, 0, none⟩) 1 sc) 1 [.int .i64 (a : Int)] ∧ ¬ U2 gs ∧ ¬ JS' gs ∧ Chg (orS U JS) (orS U2 JS') w w3 ∧
        (∀ w4 V4 U4 T4, Chg U2 U4 w3 w4 → V4.ar = V.ar → CH w4 c n R (lackR R (fun _ => 0) (T4.take T4.length)) (memB T4) T4 T4.length V4 U4 → St c n R vb cb bb gv lbs J (prc ok d (VV R n T (a + 1))).1 T4 V4 U4 JS' w4) ∧
        (ok2 = true → k' = T'.length ∧ Gen R (a + 1) T' ∧ cldB R T' = true ∧ VV R n T' (a + 1) = GG R n T a) ∧ (ok2 = false → GG R n T a = []) := by
  obtain ⟨V', U', JS', x, st, hav, hp, how, hu, hj, hcg⟩ := h
  have hne : gs ≠ vb ∧ gs ≠ cb ∧ gs ≠ bb := ⟨by omega, by omega, by omega⟩
  have st2 := st.far hJ (o := 0) (v := .int .i64 (a : Int)) hu hj hne (fun i v hv b hb e => by rw [hav] at hv; have := har i v hv b hb; omega)
  have how2 : (wr.setCell ⟨gs, 0, none⟩ (.int .i64 (a : Int))).ownsRow 0 3 1 (.slice (some ⟨gs, 0, none⟩) 1 sc) 1 [.int .i64 (a : Int)] := own_set (j := 0) how (.int .i64 (a : Int))
  have hRd := own_rd how2
  refine ⟨own_free how 0, ⟨_, own_cell how rfl⟩, ?_⟩
  refine (grow_any c n a T.length R (fun _ => 0) T V' U' [a] _ _ st2.ch (sat_of hcl) (Nat.le_refl _) hRd (fun g hg2 => by cases hg2; exact hu) (fun y hy => by rw [List.mem_singleton.1 hy]; exact ha) (by omega) hn (fun _ => by omega)).mono ?_
  rintro e w3 ⟨T', k', tv, U2, ok2, rfl, q1, q2, q3, q4, q5⟩
  have hsub : ∀ b, ¬ U' b → b < (wr.setCell ⟨gs, 0, none⟩ (.int .i64 (a : Int))).heap.size → ¬ U2 b := fun b h1 h2 h3 => by
    rcases q2.sub b h3 with h4 | h4
    · exact h1 h4
    · omega
  refine ⟨T', k', _, U2, JS', ok2, rfl, q1, hav, ?_, q5, q3.kle, q2.own how2 (fun g hg2 => by cases hg2; exact hu), hsub gs hu (own_lt how2 rfl), hj, (chg_far hcg hw).trans (chg_l q2), fun w4 V4 U4 T4 p1 p2 p3 => ?_, fun ho => ?_, fun ho => ?_⟩
  · obtain ⟨X, e, _⟩ := q3.pre
    exact ⟨X, e⟩
  · exact st2.move hJ (q2.trans p1) p3 (by rw [p2, hav])
  · subst ho
    obtain ⟨e1, e2⟩ := q4 rfl
    subst e1
    have hD := q3.done rfl (fun x hx => by
      rcases hx with hx | hx
      · obtain ⟨X, e, _⟩ := q3.pre; rw [e]; exact List.mem_append_left _ hx
      · exact e2 x hx)
    refine ⟨rfl, gen_next hg hD, cld_of hD, gg_good ha haT (e2 a (by simp)) fun x hx => ?_⟩
    obtain ⟨X, e, hX⟩ := q3.pre
    rw [e]
    constructor
    · intro h5
      rcases List.mem_append.1 h5 with h5 | h5
      · exact h5
      · have := hX x h5; omega
    · exact fun h5 => List.mem_append_left _ h5
  · obtain ⟨y, y1, y2, y3⟩ := q3.bad ho
    exact gg_bad ha haT hg y1 y2 y3
end
set_option maxRecDepth 100000 in
set_option maxHeartbeats 3200000 in
theorem bel_step (c n : Nat) (R : List Hrl) (vb cb bb gv : Nat) (lbs : Array Value) (J : List (List Nat) → (Nat → Prop) → World → Prop) (ok : List (List Nat) → Bool) (N : Nat) (hn : n ≤ 1000000) (eg : ∀ args w, (callFunc gv args).run Try.prog w = .ok (.enter gv args) w)
    (hJ : ∀ d JS w w', J d JS w → (∀ b, JS b → w'.heap[b]? = w.heap[b]?) → w.heap.size ≤ w'.heap.size → J d JS w')
    (hV : ∀ d T V U JS w, d.length < N → cldB R T = true → St c n R vb cb bb gv lbs J d T V U JS w → Calls Try.prog gv lbs w fun e w' => e = .returned (.tuple #[.slice none 0 0, .bool (ok (d ++ [mems T n]))]) ∧ ∃ JS', J (d ++ [mems T n]) JS' w' ∧ Chg JS JS' w w' ∧ ∀ b, JS' b → b < w'.heap.size)
    (f : Nat) (hf : f ≤ n) (IH : ∀ f', f < f' → f' ≤ n → ∀ d T V U JS w, St c n R vb cb bb gv lbs J d T V U JS w → Gen R f' T → cldB R T = true → (d ++ VV R n T f').length ≤ N →
      Calls Try.prog 72 #[.int .i64 f', .pointer (some ⟨vb, 0, none⟩), .pointer (some ⟨cb, 0, none⟩), .pointer (some ⟨bb, 0, none⟩)] w (BelP c n R vb cb bb gv lbs J ok d T f' V U JS w))
    (d : List (List Nat)) (T : List Nat) (V : CV) (U JS : Nat → Prop) (w : World) (h : St c n R vb cb bb gv lbs J d T V U JS w) (hg : Gen R f T) (hc : cldB R T = true) (hN : (d ++ VV R n T f).length ≤ N) :
    Calls Try.prog 72 #[.int .i64 f, .pointer (some ⟨vb, 0, none⟩), .pointer (some ⟨cb, 0, none⟩), .pointer (some ⟨bb, 0, none⟩)] w (BelP c n R vb cb bb gv lbs J ok d T f V U JS w) := by
  have hT : ∀ x ∈ T, x < n := h.ch.tn
  have hTn := h.ch.len
  obtain ⟨rest, hrest⟩ := vv_ext (R := R) (n := n) (T := T) (Nat.le_refl n) (n - f) f (by omega) hg
  rw [vv_end hT hc] at hrest
  have k1 : w.cell? ⟨vb, 0, none⟩ = some (.func (.func gv) #[] lbs) := blk_cell (cs := [.func (.func gv) #[] lbs]) h.hv rfl
  have HVC := hid_of (hV d T V U JS w (by rw [hrest] at hN; simp at hN; omega) hc h)
  obtain ⟨b1, hb1⟩ : ∃ b, b = ok (d ++ [mems T n]) := ⟨_, rfl⟩
  rw [← hb1] at HVC
  have HB1 := hid_of hb1
  cases b1
  · have HE : Hid (∀ w1 JS', J (d ++ [mems T n]) JS' w1 → Chg JS JS' w w1 → BelP c n R vb cb bb gv lbs J ok d T f V U JS w (.returned (.bool false)) w1) := hid_of (fun w1 JS' hj hch => by
      have e : prc ok d (VV R n T f) = (d ++ [mems T n], false) := by rw [hrest]; simp [prc, ← HB1.out]
      unfold BelP
      rw [e]
      exact ⟨rfl, V, U, JS', chg_r hch, hj, rfl, (fun h => by cases h)⟩)
    clear h hg hc hN hrest hb1 hV hJ
    go_enter Try.func72, Try.ntmps72
    go_wp2_with (go_at_fn gv; go_loud (refine (HVC.out).mono ?_; rintro x w1 ⟨rfl, JS', h2, h3, h4⟩; have H2 := hid_of (HE.out w1 JS' h2 h3); clear h2 h3 h4))
    go_ret
    exact H2.out
  · have hbx : vb < w.heap.size ∧ cb < w.heap.size ∧ bb < w.heap.size := ⟨lt_of_block h.hv, lt_of_block h.hc, lt_of_block h.hb⟩
    have har : ∀ (i : Nat) (v : Value), V.ar[i]? = some v → ∀ b, v.ownBlock = some b → b < w.heap.size := fun i v hv b hb => ((h.ch.ai i v hv).2 b hb).1
    have HBOX : Hid (∀ A w', Chg (orS U JS) A w w' → w'.cell? ⟨cb, 0, none⟩ = some (.pointer (some ⟨c, 0, none⟩)) ∧ w'.cell? ⟨bb, 0, none⟩ = some (.func (.func 72) #[] #[.pointer (some ⟨vb, 0, none⟩), .pointer (some ⟨cb, 0, none⟩), .pointer (some ⟨bb, 0, none⟩)])) := hid_of (fun A w' hch => by
      have n1 := h.nu cb (.inr (.inl rfl))
      have n2 := h.nu bb (.inr (.inr rfl))
      exact ⟨blk_cell (cs := [.pointer (some ⟨c, 0, none⟩)]) (hch.blk h.hc (fun h5 => h5.elim n1.1 n1.2)) rfl, blk_cell (cs := [.func (.func 72) #[] #[.pointer (some ⟨vb, 0, none⟩), .pointer (some ⟨cb, 0, none⟩), .pointer (some ⟨bb, 0, none⟩)]]) (hch.blk h.hb (fun h5 => h5.elim n2.1 n2.2)) rfl⟩)
    obtain ⟨ta, tc, htv⟩ := h.ch.tvs
    have e1 : prc ok d (VV R n T n) = (d ++ [mems T n], true) := by rw [vv_end hT hc]; simp [prc, ← HB1.out]
    have HST1 : Hid (∀ w1 JS1, J (d ++ [mems T n]) JS1 w1 → Chg JS JS1 w w1 → (∀ b, JS1 b → b < w1.heap.size) → (w1.cell? ⟨cb, 0, none⟩ = some (.pointer (some ⟨c, 0, none⟩)) ∧ w1.cell? ⟨c, 5, none⟩ = some (.slice ta T.length tc)) ∧ ∀ w3 gs sc, w1.heap.size ≤ gs → Below w1.heap.size w1 w3 → w3.ownsRow 0 3 1 (.slice (some ⟨gs, 0, none⟩) 1 sc) 1 [.int .i64 0] →
        (w3.cell? ⟨cb, 0, none⟩ = some (.pointer (some ⟨c, 0, none⟩)) ∧ w3.cell? ⟨c, 4, none⟩ = some (.slice (some ⟨V.gh, 0, none⟩) n n)) ∧ BlI c n R vb cb bb gv lbs J ok d T V U JS w gs sc n w3 ∧ w.heap.size ≤ gs) := hid_of (fun w1 JS1 hj hch hs => by
      have st1 := h.visit hch hj hs
      have q1 := HBOX.out _ w1 (chg_r hch)
      refine ⟨⟨q1.1, by have := st1.ch.cell (j := 5) rfl; rw [htv] at this; exact this⟩, fun w3 gs sc hgs hb how => ?_⟩
      have st3 := st1.below hJ hb
      refine ⟨⟨blk_cell (cs := [.pointer (some ⟨c, 0, none⟩)]) st3.hc rfl, st3.ch.cell (j := 4) rfl⟩, ⟨V, U, JS1, 0, ?_, rfl, ?_, how, fun hU => by have := st1.ch.sz gs hU; omega, fun hU => by have := hs gs hU; omega, (chg_r hch).trans (Chg.ofBelow hb)⟩, by have := hch.kept.size; omega⟩
      · rw [e1]; exact st3
      · rw [e1])
    have HEX : Hid (∀ gs sc wr, BlI c n R vb cb bb gv lbs J ok d T V U JS w gs sc f wr → BelP c n R vb cb bb gv lbs J ok d T f V U JS w (.returned (.bool true)) wr) := hid_of (fun gs sc wr hi => by
      obtain ⟨V', U', JS', x, st, hav, hp, _, _, _, hcg⟩ := hi
      exact ⟨by rw [hp], V', U', JS', hcg, st.j, hav, fun _ => st⟩)
    have HCE : Hid (∀ gs sc a wr, a < n → BlI c n R vb cb bb gv lbs J ok d T V U JS w gs sc (a + 1) wr → ∃ gh, wr.cell? ⟨cb, 0, none⟩ = some (.pointer (some ⟨c, 0, none⟩)) ∧ wr.cell? ⟨c, 4, none⟩ = some (.slice (some ⟨gh, 0, none⟩) n n) ∧ wr.cell? ⟨gh, a, none⟩ = some (.bool (memB T a))) := hid_of (fun gs sc a wr ha hi => by
      obtain ⟨V', U', JS', x, st, hav, hp, _, _, _, hcg⟩ := hi
      exact ⟨V'.gh, blk_cell (cs := [.pointer (some ⟨c, 0, none⟩)]) st.hc rfl, st.ch.cell (j := 4) rfl, st.ch.hasc ha⟩)
    have HIN : Hid (∀ gs sc a wr, f ≤ a → a < n → a ∈ T → BlI c n R vb cb bb gv lbs J ok d T V U JS w gs sc (a + 1) wr → BlI c n R vb cb bb gv lbs J ok d T V U JS w gs sc a wr) := hid_of (fun gs sc a wr hfa ha haT hi => hi.in ha (hg.mono hfa) haT)
    have HSHR : ∀ (gs sc a : Nat) (w4 : World) (T' : List Nat) (k' : Nat) (V2 : CV) (U2 JS2 : Nat → Prop) (dj : List (List Nat)), a < n → a ∉ T → w.heap.size ≤ gs → prc ok d (VV R n T a) = (dj, true) → (∃ X, T' = T ++ X) → T.length ≤ k' → k' ≤ T'.length → CH w4 c n R (lackR R (fun _ => 0) (T'.take k')) (memB T') T' k' V2 U2 → w4.ownsRow 0 3 1 (.slice (some ⟨gs, 0, none⟩) 1 sc) 1 [.int .i64 (a : Int)] → ¬ U2 gs → ¬ JS2 gs → Chg (orS U JS) (orS U2 JS2) w w4 → V2.ar = V.ar →
        (∀ w5 V4 U4 T4, Chg U2 U4 w4 w5 → V4.ar = V.ar → CH w5 c n R (lackR R (fun _ => 0) (T4.take T4.length)) (memB T4) T4 T4.length V4 U4 → St c n R vb cb bb gv lbs J dj T4 V4 U4 JS2 w5) →
        Calls Try.prog 69 #[.pointer (some ⟨c, 0, none⟩), .int .i64 T.length] w4 fun e w5 => e = .returned (.tuple #[]) ∧ BlI c n R vb cb bb gv lbs J ok d T V U JS w gs sc a w5 := fun gs sc a w4 T' k' V2 U2 JS2 dj ha haT hgs hp hX hk1 hk2 hch how hu hjs hcg hav hst => by
      obtain ⟨X, rfl⟩ := hX
      refine (shr_any c n T.length k' R (fun _ => 0) (T ++ X) V2 U2 w4 hch hk2 (by simp) hn (fun _ => by omega)).mono ?_
      rintro e w5 ⟨rfl, tv, q1, q2⟩
      rw [List.take_left, Nat.min_eq_right hk1] at q1
      refine ⟨rfl, { V2 with tv := tv }, U2, JS2, (a : Int), ?_, hav, by rw [hp], q2.own how (fun g hg2 => by cases hg2; exact hu), hu, hjs, hcg.trans (chg_l q2)⟩
      rw [hp]
      exact hst w5 { V2 with tv := tv } U2 T q2 hav q1
    have HBAD : Hid (∀ gs sc a wr, f ≤ a → a < n → a ∉ T → w.heap.size ≤ gs → GG R n T a = [] → BlI c n R vb cb bb gv lbs J ok d T V U JS w gs sc (a + 1) wr → wr.frozen? ⟨gs, 0, none⟩ = false ∧ (∃ x, wr.cell? ⟨gs, 0, none⟩ = some x) ∧ Calls Try.prog 71 #[.pointer (some ⟨c, 0, none⟩), .slice (some ⟨gs, 0, none⟩) 1 sc, .int .i64 a] (wr.setCell ⟨gs, 0, none⟩ (.int .i64 (a : Int))) fun e w3 => e = .returned (.bool false) ∧ w3.cell? ⟨cb, 0, none⟩ = some (.pointer (some ⟨c, 0, none⟩)) ∧
        Calls Try.prog 69 #[.pointer (some ⟨c, 0, none⟩), .int .i64 T.length] w3 fun e w5 => e = .returned (.tuple #[]) ∧ BlI c n R vb cb bb gv lbs J ok d T V U JS w gs sc a w5) := hid_of (fun gs sc a wr hfa ha haT hgs hGG hi => by
      obtain ⟨q1, q2, q3⟩ := hi.good hn hJ hgs hbx har hc ha haT (hg.mono hfa)
      refine ⟨q1, q2, q3.mono fun e w3 hq => ?_⟩
      obtain ⟨T', k', V2, U2, JS', ok2, rfl, p1, p2, p3, p4, p5, p6, p7, p8, p9, p10, p11, p12⟩ := hq
      have ho : ok2 = false := by
        cases ok2 with
        | false => rfl
        | true =>
          obtain ⟨_, g1, g2, g3⟩ := p11 rfl
          obtain ⟨rest, hr⟩ := vv_ext (R := R) (n := n) (T := T') (Nat.le_refl n) (n - (a + 1)) (a + 1) (by omega) g1
          rw [g3, hGG, vv_end p1.tn g2] at hr
          simp at hr
      subst ho
      obtain ⟨V', U', JSx, x, st, hav, hp, _⟩ := hi
      refine ⟨rfl, (HBOX.out _ w3 p9).1, HSHR gs sc a w3 T' k' V2 U2 JS' _ ha haT hgs ?_ p3 p4 p5 p1 p6 p7 p8 p9 p2 p10⟩
      rw [vv_gg ha haT, hGG, List.append_nil, ← hp])
    have HGOOD : Hid (∀ gs sc a wr b2, f ≤ a → a < n → a ∉ T → w.heap.size ≤ gs → GG R n T a ≠ [] → b2 = (prc ok (prc ok d (VV R n T (a + 1))).1 (GG R n T a)).2 → BlI c n R vb cb bb gv lbs J ok d T V U JS w gs sc (a + 1) wr → wr.frozen? ⟨gs, 0, none⟩ = false ∧ (∃ x, wr.cell? ⟨gs, 0, none⟩ = some x) ∧ Calls Try.prog 71 #[.pointer (some ⟨c, 0, none⟩), .slice (some ⟨gs, 0, none⟩) 1 sc, .int .i64 a] (wr.setCell ⟨gs, 0, none⟩ (.int .i64 (a : Int))) fun e w3 => e = .returned (.bool true) ∧ w3.cell? ⟨bb, 0, none⟩ = some (.func (.func 72) #[] #[.pointer (some ⟨vb, 0, none⟩), .pointer (some ⟨cb, 0, none⟩), .pointer (some ⟨bb, 0, none⟩)]) ∧
        Calls Try.prog 72 #[.int .i64 ((a : Int) + 1), .pointer (some ⟨vb, 0, none⟩), .pointer (some ⟨cb, 0, none⟩), .pointer (some ⟨bb, 0, none⟩)] w3 fun e w4 => e = .returned (.bool b2) ∧ (b2 = false → BelP c n R vb cb bb gv lbs J ok d T f V U JS w (.returned (.bool false)) w4) ∧ (b2 = true → w4.cell? ⟨cb, 0, none⟩ = some (.pointer (some ⟨c, 0, none⟩)) ∧
        Calls Try.prog 69 #[.pointer (some ⟨c, 0, none⟩), .int .i64 T.length] w4 fun e w5 => e = .returned (.tuple #[]) ∧ BlI c n R vb cb bb gv lbs J ok d T V U JS w gs sc a w5)) := hid_of (fun gs sc a wr b2 hfa ha haT hgs hGG hb2 hi => by
      obtain ⟨q1, q2, q3⟩ := hi.good hn hJ hgs hbx har hc ha haT (hg.mono hfa)
      refine ⟨q1, q2, q3.mono fun e w3 hq => ?_⟩
      obtain ⟨T', k', V2, U2, JS', ok2, rfl, p1, p2, p3, p4, p5, p6, p7, p8, p9, p10, p11, p12⟩ := hq
      have ho : ok2 = true := by
        cases ok2 with
        | true => rfl
        | false => exact absurd (p12 rfl) hGG
      subst ho
      obtain ⟨e2, g1, g2, g3⟩ := p11 rfl
      subst e2
      obtain ⟨V', U', JSx, x, st, hav, hp, _⟩ := hi
      obtain ⟨dj, hdj⟩ : ∃ dj, dj = (prc ok d (VV R n T (a + 1))).1 := ⟨_, rfl⟩
      have hpa : prc ok d (VV R n T a) = prc ok dj (GG R n T a) := by rw [vv_gg ha haT, prc_yes ok _ _ _ hp, hdj]
      rw [← hdj] at hb2 p10
      obtain ⟨rest2, hrest2⟩ := vv_ext (R := R) (n := n) (T := T) (Nat.le_of_lt ha) (a - f) f (by omega) hg
      have st3 := p10 w3 V2 U2 T' (Chg.refl _ _) p2 p1
      have hlen : (dj ++ VV R n T' (a + 1)).length ≤ N := by
        rw [g3, hdj, prc_len ok _ _ hp]
        rw [hrest2, vv_gg ha haT] at hN
        simp at hN ⊢
        omega
      refine ⟨rfl, (HBOX.out _ w3 p9).2, (IH (a + 1) (by omega) (by omega) dj T' V2 U2 JS' w3 st3 g1 g2 hlen).mono fun e w4 hb => ?_⟩
      obtain ⟨rfl, V3, U3, JS3, r1, r2, r3, r4⟩ := hb
      rw [g3] at r2 r4 ⊢
      refine ⟨by rw [hb2], fun h5 => ?_, fun h5 => ?_⟩
      · have e3 : prc ok d (VV R n T f) = prc ok dj (GG R n T a) := by
          rw [hrest2, prc_no ok _ _ _ (by rw [hpa, ← hb2, h5]), hpa]
        unfold BelP
        rw [e3, ← hb2, h5]
        exact ⟨rfl, V3, U3, JS3, p9.trans r1, r2, r3.trans p2, (fun h => by cases h)⟩
      · have st4 := r4 (by rw [← hb2]; exact h5)
        have hsub : ∀ b, ¬ U2 b → ¬ JS' b → b < w3.heap.size → ¬ U3 b ∧ ¬ JS3 b := fun b h1 h2 h3 => ⟨fun h4 => by
          rcases r1.sub b (.inl h4) with h6 | h6
          · exact h6.elim h1 h2
          · omega, fun h4 => by
          rcases r1.sub b (.inr h4) with h6 | h6
          · exact h6.elim h1 h2
          · omega⟩
        have hs2 := hsub gs p7 p8 (own_lt p6 rfl)
        refine ⟨(HBOX.out _ w4 (p9.trans r1)).1, HSHR gs sc a w4 T' T'.length V3 U3 JS3 _ ha haT hgs ?_ p3 p4 (Nat.le_refl _) st4.ch (r1.own p6 fun g hg2 => by cases hg2; exact fun h6 => h6.elim p7 p8) hs2.1 hs2.2 (p9.trans r1) (r3.trans p2) (fun w5 V4 U4 T4 s1 s2 s3 => st4.move hJ s1 s3 (by rw [s2, r3, p2]))⟩
        rw [hpa]
        exact Prod.ext rfl (by rw [← hb2, h5]))
    have HSC : Hid (∀ (gs : Nat) (wr : World) (u v : Value), w.heap.size ≤ gs → wr.cell? ⟨cb, 0, none⟩ = some u → (wr.setCell ⟨gs, 0, none⟩ v).cell? ⟨cb, 0, none⟩ = some u) := hid_of (fun gs wr u v hgs hcb => by
      unfold World.cell? at hcb ⊢
      rw [set_other (show cb ≠ gs by have := hbx.2.1; omega)]; exact hcb)
    have HN1 : Hid (n ≤ 1000000) := hid_of hn
    have HF := hid_of hf
    have hnb : n ≤ 9223372036854775807 := by omega
    clear h hg hc hN hrest hb1 hV hJ HB1 hbx har htv e1 HSHR IH hT
    go_enter Try.func72, Try.ntmps72
    go_wp2_with (first
      | (go_at_fn gv; go_loud (refine (HVC.out).mono ?_; rintro x w1 ⟨rfl, JS', h2, h3, h4⟩; have H2 := hid_of (HST1.out w1 JS' h2 h3 h4); clear h2 h3 h4; have y1 := H2.out.1.1; have y2 := H2.out.1.2))
      | (at_builtin; refine wpList_nil rfl (.tmp 23) (.tmp 24) rfl (.slice (some ⟨w1.heap.size, 0, none⟩) 1 1) [.int .i64 0] rfl (own_lit w1 0) rfl ?_; intro gs sc w3 h5 h6 h7; have H3 := hid_of (H2.out.2 w3 gs sc (by rcases h7 with h7 | h7 <;> simp [Value.ownBlock] at h7 <;> omega) ((bel_alloc w1 (.cells #[.int .i64 0] 3)).grown h6 (by simp) (fun k hk => by simp [Value.ownBlock] at hk; omega)) h5); clear h5 h6 h7; have y3 := H3.out.1.1; have y4 := H3.out.1.2))
    have HGS := hid_of H3.out.2.2
    have HB0 := hid_of H3.out.2.1
    clear y1 y2 y3 y4 H2 H3 HST1 HVC k1 hTn
    go_loopw [10] (fun xv wr => ∃ (j : Nat) (x : Int), xv = .int .i64 x ∧ Hid (x = (j : Int) - 1) ∧ -1 ≤ x ∧ x ≤ 1000000 ∧ f ≤ j ∧ j ≤ n ∧ Hid (BlI c n R vb cb bb gv lbs J ok d T V U JS w gs sc j wr)) (fun xv _ => (intOf xv + 1).toNat)
    case atStart => exact ⟨n, _, rfl, hid_of rfl, by omega, by omega, HF.out, Nat.le_refl _, HB0⟩
    case round =>
      obtain ⟨j, x, rfl, hx, hx1, hx2, hfj, hjn, hi⟩ := hrel
      by_cases hlt : f < j
      · obtain ⟨a, rfl⟩ : ∃ a, j = a + 1 := ⟨j - 1, by omega⟩
        obtain rfl : x = (a : Int) := by have := hx.out; omega
        have t1 : decide (f ≤ a) = true := by simp; omega
        have t2 : decide (a ≥ f) = true := by simp; omega
        have han : a < n := by omega
        obtain ⟨gh, m1, m2, m3⟩ := HCE.out gs sc a wr han hi.out
        by_cases haT : a ∈ T
        · rw [show memB T a = true from decide_eq_true haT] at m3
          have HN := hid_of (HIN.out gs sc a wr (by omega) han haT hi.out)
          clear haT hi
          go_wp2
          go_roundw
          case rel => exact ⟨a, _, rfl, hid_of rfl, by omega, by omega, by omega, by omega, HN⟩
          case measure => simp [intOf] <;> omega
        · rw [show memB T a = false from decide_eq_false haT] at m3
          by_cases hGG : GG R n T a = []
          · obtain ⟨o1, ⟨o2, o3⟩, o4⟩ := HBAD.out gs sc a wr (by omega) han haT HGS.out hGG hi.out
            have O4 := hid_of o4
            have g1 : (wr.setCell ⟨gs, 0, none⟩ (.int .i64 (a : Int))).cell? ⟨cb, 0, none⟩ = some (.pointer (some ⟨c, 0, none⟩)) := HSC.out _ _ _ _ HGS.out m1
            clear o4 hGG haT hi
            go_wp2_with (first
              | (go_at_call 71; ((with_reducible refine (O4.out).mono ?_); (rintro e w4 ⟨rfl, h5, h6⟩)); have y5 := h5; have H6 := hid_of h6; clear h5 h6)
              | (go_at_call 69; ((with_reducible refine (H6.out).mono ?_); (rintro e w5 ⟨rfl, h5⟩)); have H7 := hid_of h5; clear h5))
            go_roundw
            case rel => exact ⟨a, _, rfl, hid_of rfl, by omega, by omega, by omega, by omega, H7⟩
            case measure => simp [intOf] <;> omega
          · obtain ⟨b2, hb2⟩ : ∃ b2, b2 = (prc ok (prc ok d (VV R n T (a + 1))).1 (GG R n T a)).2 := ⟨_, rfl⟩
            obtain ⟨o1, ⟨o2, o3⟩, o4⟩ := HGOOD.out gs sc a wr b2 (by omega) han haT HGS.out hGG hb2 hi.out
            have g1 : (wr.setCell ⟨gs, 0, none⟩ (.int .i64 (a : Int))).cell? ⟨cb, 0, none⟩ = some (.pointer (some ⟨c, 0, none⟩)) := HSC.out _ _ _ _ HGS.out m1
            clear hGG haT hi hb2
            cases b2
            · have O5 : Hid (Calls Try.prog 71 #[.pointer (some ⟨c, 0, none⟩), .slice (some ⟨gs, 0, none⟩) 1 sc, .int .i64 a] (wr.setCell ⟨gs, 0, none⟩ (.int .i64 (a : Int))) fun e w3 => e = .returned (.bool true) ∧ w3.cell? ⟨bb, 0, none⟩ = some (.func (.func 72) #[] #[.pointer (some ⟨vb, 0, none⟩), .pointer (some ⟨cb, 0, none⟩), .pointer (some ⟨bb, 0, none⟩)]) ∧ Calls Try.prog 72 #[.int .i64 ((a : Int) + 1), .pointer (some ⟨vb, 0, none⟩), .pointer (some ⟨cb, 0, none⟩), .pointer (some ⟨bb, 0, none⟩)] w3 fun e w4 => e = .returned (.bool false) ∧ BelP c n R vb cb bb gv lbs J ok d T f V U JS w (.returned (.bool false)) w4) := hid_of (o4.mono fun e w3 ⟨h1, h2, h3⟩ => ⟨h1, h2, h3.mono fun e w4 ⟨h4, h5, _⟩ => ⟨h4, h5 rfl⟩⟩)
              clear o4
              go_wp2_with (first
                | (go_at_call 71; ((with_reducible refine (O5.out).mono ?_); (rintro e w4 ⟨rfl, h5, h6⟩)); have y5 := h5; have H6 := hid_of h6; clear h5 h6)
                | (go_at_call 72; ((with_reducible refine (H6.out).mono ?_); (rintro e w5 ⟨rfl, h5⟩)); have H7 := hid_of h5; clear h5))
              go_ret
              exact H7.out
            · have O5 : Hid (Calls Try.prog 71 #[.pointer (some ⟨c, 0, none⟩), .slice (some ⟨gs, 0, none⟩) 1 sc, .int .i64 a] (wr.setCell ⟨gs, 0, none⟩ (.int .i64 (a : Int))) fun e w3 => e = .returned (.bool true) ∧ w3.cell? ⟨bb, 0, none⟩ = some (.func (.func 72) #[] #[.pointer (some ⟨vb, 0, none⟩), .pointer (some ⟨cb, 0, none⟩), .pointer (some ⟨bb, 0, none⟩)]) ∧ Calls Try.prog 72 #[.int .i64 ((a : Int) + 1), .pointer (some ⟨vb, 0, none⟩), .pointer (some ⟨cb, 0, none⟩), .pointer (some ⟨bb, 0, none⟩)] w3 fun e w4 => e = .returned (.bool true) ∧ w4.cell? ⟨cb, 0, none⟩ = some (.pointer (some ⟨c, 0, none⟩)) ∧ Calls Try.prog 69 #[.pointer (some ⟨c, 0, none⟩), .int .i64 T.length] w4 fun e w5 => e = .returned (.tuple #[]) ∧ BlI c n R vb cb bb gv lbs J ok d T V U JS w gs sc a w5) := hid_of (o4.mono fun e w3 ⟨h1, h2, h3⟩ => ⟨h1, h2, h3.mono fun e w4 ⟨h4, _, h5⟩ => ⟨h4, (h5 rfl).1, (h5 rfl).2⟩⟩)
              clear o4
              go_wp2_with (first
                | (go_at_call 71; ((with_reducible refine (O5.out).mono ?_); (rintro e w4 ⟨rfl, h5, h6⟩)); have y5 := h5; have H6 := hid_of h6; clear h5 h6)
                | (go_at_call 72; ((with_reducible refine (H6.out).mono ?_); (rintro e w5 ⟨rfl, h5, h6⟩)); have y6 := h5; have H7 := hid_of h6; clear h5 h6)
                | (go_at_call 69; ((with_reducible refine (H7.out).mono ?_); (rintro e w6 ⟨rfl, h5⟩)); have H8 := hid_of h5; clear h5))
              go_roundw
              case rel => exact ⟨a, _, rfl, hid_of rfl, by omega, by omega, by omega, by omega, H8⟩
              case measure => simp [intOf] <;> omega
      · obtain rfl : f = j := by omega
        have t1 : decide ((f : Int) ≤ x) = false := by simp; have := hx.out; omega
        have t2 : decide (x ≥ (f : Int)) = false := by simp; have := hx.out; omega
        have HE := hid_of (HEX.out gs sc wr hi.out)
        clear hi hx
        go_wp2
        go_ret
        exact HE.out

theorem bel_any (c n : Nat) (R : List Hrl) (vb cb bb gv : Nat) (lbs : Array Value) (J : List (List Nat) → (Nat → Prop) → World → Prop) (ok : List (List Nat) → Bool) (N : Nat) (hn : n ≤ 1000000) (eg : ∀ args w, (callFunc gv args).run Try.prog w = .ok (.enter gv args) w)
    (hJ : ∀ d JS w w', J d JS w → (∀ b, JS b → w'.heap[b]? = w.heap[b]?) → w.heap.size ≤ w'.heap.size → J d JS w')
    (hV : ∀ d T V U JS w, d.length < N → cldB R T = true → St c n R vb cb bb gv lbs J d T V U JS w → Calls Try.prog gv lbs w fun e w' => e = .returned (.tuple #[.slice none 0 0, .bool (ok (d ++ [mems T n]))]) ∧ ∃ JS', J (d ++ [mems T n]) JS' w' ∧ Chg JS JS' w w' ∧ ∀ b, JS' b → b < w'.heap.size) :
    ∀ (F f : Nat), n ≤ f + F → f ≤ n → ∀ d T V U JS w, St c n R vb cb bb gv lbs J d T V U JS w → Gen R f T → cldB R T = true → (d ++ VV R n T f).length ≤ N →
      Calls Try.prog 72 #[.int .i64 f, .pointer (some ⟨vb, 0, none⟩), .pointer (some ⟨cb, 0, none⟩), .pointer (some ⟨bb, 0, none⟩)] w (BelP c n R vb cb bb gv lbs J ok d T f V U JS w) := by
  intro F
  induction F with
  | zero => exact fun f hF hf d T V U JS w h hg hc hN => bel_step c n R vb cb bb gv lbs J ok N hn eg hJ hV f hf (fun f' h1 h2 => by omega) d T V U JS w h hg hc hN
  | succ F ih => exact fun f hF hf d T V U JS w h hg hc hN => bel_step c n R vb cb bb gv lbs J ok N hn eg hJ hV f hf (fun f' h1 h2 => ih f' (by omega) h2) d T V U JS w h hg hc hN
end Go.Proofs.Ytjponegeidiheaa
