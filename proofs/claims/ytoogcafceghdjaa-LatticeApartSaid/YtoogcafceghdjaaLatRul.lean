/- Rows of rules: equalRules, slices.EqualFunc over rules and over descriptions. Bounds on sizes alone. -/
import Derived.Test.YtoogcafceghdjaaLatStr
namespace Go.Proofs.Ytoogcafceghdjaa
open Go.RowKit

theorem RuR.get {w : World} {ao : Option Addr} {n c : Nat} {rs : List Gr} (h : RuR w (.slice ao n c) rs) {i : Nat} {r : Gr} (hi : rs[i]? = some r) :
    ∃ (g o : Nat) (a : Option Addr) (k d : Nat), ao = some ⟨g, o, none⟩ ∧ Rd w (.slice a k d) (ss r.1) ∧ ∀ w', Below w.heap.size w w' → w'.cell? ⟨g, o + i * 2, none⟩ = some (.slice a k d) ∧ w'.cell? ⟨g, o + i * 2 + 1, none⟩ = some (.string (ba r.2)) := by
  obtain ⟨l, h1, h2, h3⟩ := h
  have hil := (List.getElem?_eq_some_iff.1 hi).1
  obtain ⟨t, ht⟩ : ∃ t, l[i]? = some t := ⟨_, List.getElem?_eq_getElem (by omega)⟩
  obtain ⟨q1, q2⟩ := h3 i t r ht hi
  obtain ⟨t1, t2⟩ := t
  simp only at q1 q2
  have q0 := q1
  obtain ⟨a, d, rfl, _⟩ := q1
  subst q2
  obtain ⟨g, o, e1, _⟩ := h1.get ht
  refine ⟨g, o, a, _, d, e1, q0, fun w' hb => ?_⟩
  obtain ⟨g', o', e2, r⟩ := (h1.at hb).get ht
  rw [e1] at e2
  simp only [Option.some.injEq, Addr.mk.injEq, and_true] at e2
  obtain ⟨rfl, rfl⟩ := e2
  exact r
theorem gr_dec (a b : Gr) : decide (a = b) = (decide (a.2 = b.2) && decide (a.1 = b.1)) := by
  obtain ⟨a1, a2⟩ := a
  obtain ⟨b1, b2⟩ := b
  simp only [Prod.mk.injEq, Bool.decide_and]
  exact Bool.and_comm _ _
set_option maxRecDepth 100000 in
theorem eqrule_any (x y : Gr) (a b : Option Addr) (n n2 c c2 : Nat) (w : World) (R1 : Rd w (.slice a n c) (ss x.1)) (R2 : Rd w (.slice b n2 c2) (ss y.1)) :
    Calls Try.prog 38 #[.agg #[.slice a n c, .string (ba x.2)], .agg #[.slice b n2 c2, .string (ba y.2)]] w (BoP (decide (x = y)) w) := by
  rw [gr_dec]
  have CALL := hid_of (fun (wz : World) (hz : Below w.heap.size w wz) => seqs_any x.1 y.1 a b n n2 c c2 wz (R1.at hz) (R2.at hz))
  obtain ⟨q, hq⟩ : ∃ q, q = decide (x.1 = y.1) := ⟨_, rfl⟩
  rw [← hq] at CALL ⊢
  clear hq R1 R2
  obtain ⟨bx, hx⟩ : ∃ bx, bx = ba x.2 := ⟨_, rfl⟩
  obtain ⟨bz, hy⟩ : ∃ bz, bz = ba y.2 := ⟨_, rfl⟩
  rw [← hx, ← hy]
  have HBB := hid_of (((Below.refl w.heap.size w).alloc (Nat.le_refl _) (.cells #[.slice a n c, .string bx] 58)).alloc (by simp) (.cells #[.slice b n2 c2, .string bz] 58))
  by_cases he : x.2 = y.2
  · have et := eq_t hx hy he
    rw [decide_eq_true he, Bool.true_and]
    clear hx hy he
    go_enter Try.func38, Try.ntmps38
    go_wp2_with (go_at_call 35; ((with_reducible refine (CALL.out _ HBB.out).mono ?_); (rintro e w2 ⟨rfl, h2⟩)); (have HX := hid_of h2); clear h2)
    go_ret
    exact ⟨rfl, HBB.out.trans (HX.out.mono (by simp; omega))⟩
  · have et := eq_f hx hy he
    rw [decide_eq_false he, Bool.false_and]
    clear hx hy he
    go_enter Try.func38, Try.ntmps38
    go_wp2
    go_ret
    exact ⟨rfl, HBB.out⟩

set_option maxRecDepth 100000 in
set_option maxHeartbeats 3200000 in
theorem eqfr_any (F : Nat) (eg : ∀ args w, (callFunc F args).run Try.prog w = .ok (.enter F args) w) (l m : List Gr) (ao bo : Option Addr) (n n2 cap cap2 : Nat) (w : World) (R1 : RuR w (.slice ao n cap) l) (R2 : RuR w (.slice bo n2 cap2) m)
    (hF : ∀ x ∈ l, ∀ (y : Gr) (a b : Option Addr) (k k2 c c2 : Nat) (w : World), Rd w (.slice a k c) (ss x.1) → Rd w (.slice b k2 c2) (ss y.1) → Calls Try.prog F #[.agg #[.slice a k c, .string (ba x.2)], .agg #[.slice b k2 c2, .string (ba y.2)]] w (BoP (decide (x = y)) w)) :
    Calls Try.prog 37 #[.slice ao n cap, .slice bo n2 cap2, .func (.func F) #[] #[]] w (BoP (decide (l = m)) w) := by
  obtain ⟨hn, hnc, hcap⟩ := R1.len
  obtain ⟨hn2, hnc2, hcap2⟩ := R2.len
  obtain ⟨r, hr⟩ : ∃ r, r = decide (l = m) := ⟨_, rfl⟩
  rw [← hr]
  have HR := hid_of hr
  have H1 := hid_of R1
  have H2 := hid_of R2
  have HF := hid_of hF
  clear hr R1 R2 hF
  by_cases hnn : n = n2
  case neg =>
    have RF : Hid (false = r) := hid_of (by rw [HR.out]; exact (decide_eq_false (fun h => hnn (by rw [hn, hn2, h]))).symm)
    have e1 : (n == n2) = false := beq_eq_false_iff_ne.2 hnn
    have e2 : ((n : Int) == (n2 : Int)) = false := beq_eq_false_iff_ne.2 (by omega)
    have e3 : ((n : Int) != (n2 : Int)) = true := bne_iff_ne.2 (by omega)
    clear hnn hn hn2
    go_enter Try.func37, Try.ntmps37
    go_wp2
    go_ret
    exact ⟨ret_b RF.out, Below.refl _ _⟩
  subst hnn
  have HN := hid_of hn
  have HN2 := hid_of hn2
  clear hn hn2
  go_enter Try.func37, Try.ntmps37
  go_wp2
  go_loopw [17] (fun iv wr => ∃ i : Nat, iv = .int .i64 i ∧ i ≤ n ∧ Hid (∀ j, j < i → l[j]? = m[j]?) ∧ Hid (Below w.heap.size w wr)) (fun iv _ => n - (intOf iv).toNat)
  case atStart => exact ⟨0, rfl, Nat.zero_le _, hid_of (fun j h => absurd h (Nat.not_lt_zero j)), hid_of (Below.refl _ _)⟩
  case round =>
    obtain ⟨i, rfl, hi, HM, hb⟩ := hrel
    by_cases hlt : i < n
    · have d1 : decide (i < n) = true := decide_eq_true hlt
      have hlt' : (i : Int) < (n : Int) := by omega
      have HLT := hid_of hlt
      have hl : i < l.length := by have := HN.out; omega
      have hm : i < m.length := by have := HN2.out; omega
      obtain ⟨g, o, aA, kA, dA, rfl, RA, hcA⟩ := H1.out.get (List.getElem?_eq_getElem hl)
      obtain ⟨c0, c1⟩ := hcA wr hb.out
      obtain ⟨g2, o2, aB, kB, dB, rfl, RB, hcB⟩ := H2.out.get (List.getElem?_eq_getElem hm)
      obtain ⟨b0, b1⟩ := hcB (wr.alloc (.cells #[.slice aA kA dA, .string (ba l[i].2)] 58)) (hb.out.alloc hb.out.size _)
      obtain ⟨bx, hx⟩ : ∃ bx, bx = ba l[i].2 := ⟨_, rfl⟩
      obtain ⟨bz, hy⟩ : ∃ bz, bz = ba m[i].2 := ⟨_, rfl⟩
      have HBB := hid_of ((hb.out.alloc (B := w.heap.size) hb.out.size (.cells #[.slice aA kA dA, .string (ba l[i].2)] 58)).alloc (by simp; exact Nat.le_succ_of_le hb.out.size) (.cells #[.slice aB kB dB, .string (ba m[i].2)] 58))
      have CALL := hid_of (HF.out l[i] (List.getElem_mem hl) m[i] aA aB kA kB dA dB _ (RA.at HBB.out) (RB.at HBB.out))
      rw [← hx] at CALL c1 b0 b1 HBB
      rw [← hy] at CALL b1 HBB
      clear hx hy hcA hcB RA RB
      obtain ⟨q, hq⟩ : ∃ q, q = decide (l[i] = m[i]) := ⟨_, rfl⟩
      rw [← hq] at CALL
      have HL := hid_of hl
      have HMM := hid_of hm
      cases q
      · have RF : Hid (false = r) := hid_of (by
          rw [HR.out]
          refine (decide_eq_false fun h => of_decide_eq_false hq.symm ?_).symm
          subst h; rfl)
        clear hlt hq hl hm
        go_wp2_with (go_at_fn F; go_loud (refine (CALL.out).mono ?_; rintro e w2 ⟨rfl, h2⟩; have HX := hid_of h2; clear h2))
        go_ret
        exact ⟨ret_b RF.out, HBB.out.trans (HX.out.mono (by have := hb.out.size; simp; omega))⟩
      · have HE : Hid (∀ j, j < i + 1 → l[j]? = m[j]?) := hid_of (fun j hj => by
          by_cases e : j = i
          · subst e; rw [List.getElem?_eq_getElem hl, List.getElem?_eq_getElem hm, of_decide_eq_true hq.symm]
          · exact HM.out j (by omega))
        clear hlt hq hl hm
        go_wp2_with (go_at_fn F; go_loud (refine (CALL.out).mono ?_; rintro e w2 ⟨rfl, h2⟩; have HX := hid_of h2; clear h2))
        go_roundw
        case rel => exact ⟨i + 1, by go_num, HLT.out, HE, hid_of (HBB.out.trans (HX.out.mono (by have := hb.out.size; simp; omega)))⟩
        case measure => have := HLT.out; simp [intOf]; omega
    · have d1 : decide (i < n) = false := decide_eq_false hlt
      have RT : Hid (true = r) := hid_of (by
        rw [HR.out]
        refine (decide_eq_true ?_).symm
        refine List.ext_getElem? fun j => ?_
        by_cases hj : j < n
        · exact HM.out j (by omega)
        · rw [List.getElem?_eq_none (by have := HN.out; omega), List.getElem?_eq_none (by have := HN2.out; omega)])
      go_wp2
      go_ret
      exact ⟨ret_b RT.out, hb.out⟩

set_option maxRecDepth 100000 in
set_option maxHeartbeats 3200000 in
theorem eqfl_any (F : Nat) (eg : ∀ args w, (callFunc F args).run Try.prog w = .ok (.enter F args) w) (l m : List Lat) (ao bo : Option Addr) (n n2 cap cap2 : Nat) (w : World) (R1 : LDs w (.slice ao n cap) l) (R2 : LDs w (.slice bo n2 cap2) m)
    (hF : ∀ x ∈ l, ∀ (y : Lat) (kA loA hiA : Int) (anA : Option Addr) (nnA cnA : Nat) (apA : Option Addr) (npA cpA : Nat) (arA : Option Addr) (nrA crA : Nat) (kB loB hiB : Int) (anB : Option Addr) (nnB cnB : Nat) (apB : Option Addr) (npB cpB : Nat) (arB : Option Addr) (nrB crB : Nat) (w : World), LO w kA loA hiA anA nnA cnA apA npA cpA arA nrA crA x → LO w kB loB hiB anB nnB cnB apB npB cpB arB nrB crB y → Calls Try.prog F #[.agg #[.int .i64 kA, .int .i64 loA, .int .i64 hiA, .slice anA nnA cnA, .slice apA npA cpA, .slice arA nrA crA], .agg #[.int .i64 kB, .int .i64 loB, .int .i64 hiB, .slice anB nnB cnB, .slice apB npB cpB, .slice arB nrB crB]] w (BoP (decide (x = y)) w)) :
    Calls Try.prog 36 #[.slice ao n cap, .slice bo n2 cap2, .func (.func F) #[] #[]] w (BoP (decide (l = m)) w) := by
  obtain ⟨hn, hnc, hcap⟩ := R1.len
  obtain ⟨hn2, hnc2, hcap2⟩ := R2.len
  obtain ⟨r, hr⟩ : ∃ r, r = decide (l = m) := ⟨_, rfl⟩
  rw [← hr]
  have HR := hid_of hr
  have H1 := hid_of R1
  have H2 := hid_of R2
  have HF := hid_of hF
  clear hr R1 R2 hF
  by_cases hnn : n = n2
  case neg =>
    have RF : Hid (false = r) := hid_of (by rw [HR.out]; exact (decide_eq_false (fun h => hnn (by rw [hn, hn2, h]))).symm)
    have e1 : (n == n2) = false := beq_eq_false_iff_ne.2 hnn
    have e2 : ((n : Int) == (n2 : Int)) = false := beq_eq_false_iff_ne.2 (by omega)
    have e3 : ((n : Int) != (n2 : Int)) = true := bne_iff_ne.2 (by omega)
    clear hnn hn hn2
    go_enter Try.func36, Try.ntmps36
    go_wp2
    go_ret
    exact ⟨ret_b RF.out, Below.refl _ _⟩
  subst hnn
  have HN := hid_of hn
  have HN2 := hid_of hn2
  clear hn hn2
  go_enter Try.func36, Try.ntmps36
  go_wp2
  go_loopw [17] (fun iv wr => ∃ i : Nat, iv = .int .i64 i ∧ i ≤ n ∧ Hid (∀ j, j < i → l[j]? = m[j]?) ∧ Hid (Below w.heap.size w wr)) (fun iv _ => n - (intOf iv).toNat)
  case atStart => exact ⟨0, rfl, Nat.zero_le _, hid_of (fun j h => absurd h (Nat.not_lt_zero j)), hid_of (Below.refl _ _)⟩
  case round =>
    obtain ⟨i, rfl, hi, HM, hb⟩ := hrel
    by_cases hlt : i < n
    · have d1 : decide (i < n) = true := decide_eq_true hlt
      have hlt' : (i : Int) < (n : Int) := by omega
      have HLT := hid_of hlt
      have hl : i < l.length := by have := HN.out; omega
      have hm : i < m.length := by have := HN2.out; omega
      obtain ⟨g, o, kA, loA, hiA, anA, nnA, cnA, apA, npA, cpA, arA, nrA, crA, rfl, LA, hcA⟩ := H1.out.get (List.getElem?_eq_getElem hl)
      obtain ⟨c0, c1, c2, c3, c4, c5⟩ := hcA wr hb.out
      obtain ⟨g2, o2, kB, loB, hiB, anB, nnB, cnB, apB, npB, cpB, arB, nrB, crB, rfl, LB, hcB⟩ := H2.out.get (List.getElem?_eq_getElem hm)
      obtain ⟨b0, b1, b2, b3, b4, b5⟩ := hcB (wr.alloc (.cells #[.int .i64 kA, .int .i64 loA, .int .i64 hiA, .slice anA nnA cnA, .slice apA npA cpA, .slice arA nrA crA] 26)) (hb.out.alloc hb.out.size _)
      have HBB := hid_of ((hb.out.alloc (B := w.heap.size) hb.out.size (.cells #[.int .i64 kA, .int .i64 loA, .int .i64 hiA, .slice anA nnA cnA, .slice apA npA cpA, .slice arA nrA crA] 26)).alloc (by simp; exact Nat.le_succ_of_le hb.out.size) (.cells #[.int .i64 kB, .int .i64 loB, .int .i64 hiB, .slice anB nnB cnB, .slice apB npB cpB, .slice arB nrB crB] 26))
      have CALL := hid_of (HF.out l[i] (List.getElem_mem hl) m[i] kA loA hiA anA nnA cnA apA npA cpA arA nrA crA kB loB hiB anB nnB cnB apB npB cpB arB nrB crB _ (LA.at HBB.out) (LB.at HBB.out))
      clear hcA hcB LA LB
      obtain ⟨q, hq⟩ : ∃ q, q = decide (l[i] = m[i]) := ⟨_, rfl⟩
      rw [← hq] at CALL
      have HL := hid_of hl
      have HMM := hid_of hm
      cases q
      · have RF : Hid (false = r) := hid_of (by
          rw [HR.out]
          refine (decide_eq_false fun h => of_decide_eq_false hq.symm ?_).symm
          subst h; rfl)
        clear hlt hq hl hm
        go_wp2_with (go_at_fn F; go_loud (refine (CALL.out).mono ?_; rintro e w2 ⟨rfl, h2⟩; have HX := hid_of h2; clear h2))
        go_ret
        exact ⟨ret_b RF.out, HBB.out.trans (HX.out.mono (by have := hb.out.size; simp; omega))⟩
      · have HE : Hid (∀ j, j < i + 1 → l[j]? = m[j]?) := hid_of (fun j hj => by
          by_cases e : j = i
          · subst e; rw [List.getElem?_eq_getElem hl, List.getElem?_eq_getElem hm, of_decide_eq_true hq.symm]
          · exact HM.out j (by omega))
        clear hlt hq hl hm
        go_wp2_with (go_at_fn F; go_loud (refine (CALL.out).mono ?_; rintro e w2 ⟨rfl, h2⟩; have HX := hid_of h2; clear h2))
        go_roundw
        case rel => exact ⟨i + 1, by go_num, HLT.out, HE, hid_of (HBB.out.trans (HX.out.mono (by have := hb.out.size; simp; omega)))⟩
        case measure => have := HLT.out; simp [intOf]; omega
    · have d1 : decide (i < n) = false := decide_eq_false hlt
      have RT : Hid (true = r) := hid_of (by
        rw [HR.out]
        refine (decide_eq_true ?_).symm
        refine List.ext_getElem? fun j => ?_
        by_cases hj : j < n
        · exact HM.out j (by omega)
        · rw [List.getElem?_eq_none (by have := HN.out; omega), List.getElem?_eq_none (by have := HN2.out; omega)])
      go_wp2
      go_ret
      exact ⟨ret_b RT.out, hb.out⟩

end Go.Proofs.Ytoogcafceghdjaa
