/- compile: universe and rules are checked and become numbers. Bounds on sizes alone. -/
import Derived.Test.YtjponegeidiheaaClsInd
import Derived.Test.YtjponegeidiheaaPrRow
namespace Go.Proofs.Ytjponegeidiheaa
open Go.RowKit

/-- A rule in names: its premises, its conclusion. -/
abbrev Gr := List Str × Str
def nameB (x : Str) : Bool := isName (strBytes (ba x))
/-- The error of a rule. -/
def ruE (U : List Str) (r : Gr) : Nat := if ¬ SS r.1 then 1 else if ¬ (∀ x ∈ r.1, x ∈ U) then 3 else if r.2 ∉ U then 3 else 0
def rusE (U : List Str) : List Gr → Nat
  | [] => 0
  | r :: rs => if ruE U r = 0 then rusE U rs else ruE U r
def chkE (U : List Str) (rs : List Gr) : Nat := if U.all nameB = false then 3 else if ¬ SS U then 1 else rusE U rs
/-- R are the rules rs in numbers. -/
structure Cmp (U : List Str) (rs : List Gr) (R : List Hrl) : Prop where
  len : R.length = rs.length
  at_ : ∀ (i : Nat) (r : Gr) (q : Hrl), rs[i]? = some r → R[i]? = some q → Ix U r.1 q.1 ∧ Ix U [r.2] q.2
/-- The slice v reads as rules in names. -/
def RuR (w : World) (v : Value) (rs : List Gr) : Prop := ∃ l : List PV, PRd w v l ∧ l.length = rs.length ∧ ∀ (i : Nat) (t : PV) (r : Gr), l[i]? = some t → rs[i]? = some r → Rd w t.1 (ss r.1) ∧ t.2 = .string (ba r.2)
theorem RuR.at {w w' : World} {v : Value} {rs : List Gr} (h : RuR w v rs) (hb : Below w.heap.size w w') : RuR w' v rs := by
  obtain ⟨l, h1, h2, h3⟩ := h
  exact ⟨l, h1.at hb, h2, fun i t r ht hr => ⟨(h3 i t r ht hr).1.at hb, (h3 i t r ht hr).2⟩⟩
/-- The pairs l are rules in numbers, rows of the call's own. -/
def CoL (B : Nat) (w : World) (l : List PV) (R : List Hrl) : Prop := l.length = R.length ∧ ∀ (i : Nat) (t : PV) (q : Hrl), l[i]? = some t → R[i]? = some q → w.ownsRow B 3 1 t.1 q.1.length (ints q.1) ∧ w.ownsRow B 3 1 t.2 q.2.length (ints q.2)
def CoR (B : Nat) (w : World) (v : Value) (R : List Hrl) : Prop := ∃ l : List PV, PRd w v l ∧ CoL B w l R
theorem own_weak {W : World} {B B' e s n : Nat} {v : Value} {xs : List Value} (h : W.ownsRow B e s v n xs) (hB : B' ≤ B) : W.ownsRow B' e s v n xs := by
  obtain ⟨h1, h2⟩ := h
  refine ⟨h1, ?_⟩
  rcases h2 with h2 | ⟨g, cap, cur, hv, h3, r⟩
  · exact .inl h2
  · exact .inr ⟨g, cap, cur, hv, Nat.le_trans hB h3, r⟩
theorem own_base {W : World} {B e s n : Nat} {v : Value} {xs : List Value} (h : W.ownsRow B e s v n xs) : W.ownsRow 0 e s v n xs := by
  obtain ⟨h1, h2⟩ := h
  refine ⟨h1, ?_⟩
  rcases h2 with h2 | ⟨g, cap, cur, hv, _, r⟩
  · exact .inl h2
  · exact .inr ⟨g, cap, cur, hv, Nat.zero_le _, r⟩
theorem CoL.at {B : Nat} {w w' : World} {l : List PV} {R : List Hrl} (h : CoL B w l R) (hb : Below w.heap.size w w') : CoL B w' l R :=
  ⟨h.1, fun i t q ht hq => ⟨own_same (h.2 i t q ht hq).1 fun k hk => hb.block k (own_lt (h.2 i t q ht hq).1 hk), own_same (h.2 i t q ht hq).2 fun k hk => hb.block k (own_lt (h.2 i t q ht hq).2 hk)⟩⟩
theorem CoR.at {B : Nat} {w w' : World} {v : Value} {R : List Hrl} (h : CoR B w v R) (hb : Below w.heap.size w w') : CoR B w' v R := by
  obtain ⟨l, h1, h2⟩ := h
  exact ⟨l, h1.at hb, h2.at hb⟩
theorem own_blkS {W : World} {B e s n k : Nat} {v : Value} {xs : List Value} (ho : W.ownsRow B e s v n xs) (hk : v.ownBlock = some k) : ∃ cur, W.heap[k]? = some (.cells cur e (0, 0)) := by
  rcases ho.2 with ⟨e, _⟩ | ⟨q, cap, cur, e, _, h2, _⟩
  · rw [e] at hk; cases hk
  · rw [e] at hk
    simp only [Value.ownBlock, Option.some.injEq] at hk
    subst hk
    exact ⟨_, h2⟩
/-- A row of numbers behind an append onto a row of another type. -/
theorem own_grown {W W' : World} {B B2 e2 s2 n n2 : Nat} {v v2 : Value} {xs xs2 : List Value} (ho : W.ownsRow B 3 1 v n xs) (ho2 : W.ownsRow B2 e2 s2 v2 n2 xs2) (he : 3 ≠ e2) (hg : W.grownBy W' v2.ownBlock) : W'.ownsRow B 3 1 v n xs :=
  own_same ho fun k hk => hg.block k (own_lt ho hk) (fun h => by
    obtain ⟨c1, h1⟩ := own_blk ho hk
    obtain ⟨c2, h2⟩ := own_blkS ho2 h.symm
    rw [h1] at h2
    simp only [Option.some.injEq, Obj.cells.injEq] at h2
    exact he h2.2.1)
theorem ruleE : Elem2 Try.prog 71 90 (.agg #[.slice none 0 0, .slice none 0 0]) 48 := ⟨Try.underlying71, by kernel_rfl, rfl⟩

def CmpP (U : List Str) (rs : List Gr) (w : World) (e : Ending) (w' : World) : Prop :=
  Below w.heap.size w w' ∧ ((chkE U rs ≠ 0 ∧ e = .returned (.tuple #[.slice none 0 0, .int .i64 (chkE U rs : Nat)])) ∨
  (chkE U rs = 0 ∧ ∃ (R : List Hrl) (ao : Option Addr) (cap : Nat), e = .returned (.tuple #[.slice ao rs.length cap, .int .i64 0]) ∧ Cmp U rs R ∧ CoR w.heap.size w' (.slice ao rs.length cap) R))
/-- A round of the second loop. -/
structure CmI (U : List Str) (rs : List Gr) (w : World) (j : Nat) (v : Value) (wr : World) : Prop where
  ex : ∃ (R : List Hrl) (l : List PV), l.length = j ∧ Cmp U (rs.take j) R ∧ CoL w.heap.size wr l R ∧ OP 90 w.heap.size w wr v l
  ok : ∀ r, r ∈ rs.take j → ruE U r = 0
theorem rusE_zero {U : List Str} : ∀ {rs : List Gr}, (∀ r ∈ rs, ruE U r = 0) → rusE U rs = 0
  | [], _ => rfl
  | r :: rs, h => by rw [rusE, if_pos (h r (by simp))]; exact rusE_zero fun q hq => h q (List.mem_cons_of_mem _ hq)
theorem rusE_first {U : List Str} : ∀ {rs : List Gr} {j : Nat} {r : Gr}, (∀ q, q ∈ rs.take j → ruE U q = 0) → rs[j]? = some r → ruE U r ≠ 0 → rusE U rs = ruE U r
  | [], _, _, _, h, _ => by simp at h
  | q :: rs, 0, r, _, h, hr => by
    simp at h; subst h
    rw [rusE, if_neg hr]
  | q :: rs, j + 1, r, hq, h, hr => by
    rw [rusE, if_pos (hq q (by simp))]
    exact rusE_first (j := j) (fun p hp => hq p (by simp [hp])) (by simpa using h) hr

theorem ruE_cases (U : List Str) (r : Gr) : (ruE U r = 1 ∧ ¬ SS r.1) ∨ (ruE U r = 3 ∧ SS r.1 ∧ ¬ ∀ x, x ∈ r.1 → x ∈ U) ∨ (ruE U r = 3 ∧ SS r.1 ∧ (∀ x, x ∈ r.1 → x ∈ U) ∧ r.2 ∉ U) ∨ (ruE U r = 0 ∧ SS r.1 ∧ (∀ x, x ∈ r.1 → x ∈ U) ∧ r.2 ∈ U) := by
  unfold ruE
  by_cases h1 : SS r.1
  · by_cases h2 : ∀ x, x ∈ r.1 → x ∈ U
    · by_cases h3 : r.2 ∈ U
      · exact .inr (.inr (.inr ⟨by rw [if_neg (by simpa using h1), if_neg (by simpa using h2), if_neg (by simpa using h3)], h1, h2, h3⟩))
      · exact .inr (.inr (.inl ⟨by rw [if_neg (by simpa using h1), if_neg (by simpa using h2), if_pos h3], h1, h2, h3⟩))
    · exact .inr (.inl ⟨by rw [if_neg (by simpa using h1), if_pos h2], h1, h2⟩)
  · exact .inl ⟨by rw [if_pos h1], h1⟩
theorem ss_single (x : Str) : SS [x] := List.pairwise_singleton _ _
/-- indices, by its outcome. -/
theorem ind_err {uo ao : Option Addr} {un uc n cap : Nat} {U s : List Str} {w : World} (h : Calls Try.prog 60 #[.slice uo un uc, .slice ao n cap] w (IndP U s w)) {q : Int} (hq : (q = 1 ∧ ¬ SS s) ∨ (q = 3 ∧ SS s ∧ ¬ ∀ x, x ∈ s → x ∈ U)) :
    Calls Try.prog 60 #[.slice uo un uc, .slice ao n cap] w fun e w' => e = .returned (.tuple #[.slice none 0 0, .int .i64 q]) ∧ Below w.heap.size w w' :=
  h.mono fun e w' h => by
    rcases h with ⟨h1, h2, h3⟩ | ⟨h1, h2, h3, h4⟩ | ⟨h1, h2, h3⟩
    · rcases hq with ⟨rfl, _⟩ | ⟨_, h5, _⟩
      · exact ⟨h2, h3⟩
      · exact absurd h5 h1
    · rcases hq with ⟨_, h5⟩ | ⟨rfl, _, h5⟩
      · exact absurd h1 h5
      · exact ⟨h3, h4⟩
    · rcases hq with ⟨_, h5⟩ | ⟨_, _, h5⟩
      · exact absurd h1 h5
      · exact absurd h2 h5
theorem ind_ok {uo ao : Option Addr} {un uc n cap : Nat} {U s : List Str} {w : World} (h : Calls Try.prog 60 #[.slice uo un uc, .slice ao n cap] w (IndP U s w)) (h1 : SS s) (h2 : ∀ x, x ∈ s → x ∈ U) :
    Calls Try.prog 60 #[.slice uo un uc, .slice ao n cap] w fun e w' => ∃ (L : List Nat) (ro : Option Addr) (rc : Nat), e = .returned (.tuple #[.slice ro s.length rc, .int .i64 0]) ∧ Ix U s L ∧ Ow 3 w.heap.size w w' (.slice ro s.length rc) (ints L) :=
  h.mono fun e w' h => by
    rcases h with ⟨h5, _⟩ | ⟨_, h5, _⟩ | ⟨_, _, L, ro, rc, h6, h7, h8⟩
    · exact absurd h1 h5
    · exact absurd h2 h5
    · exact ⟨L, ro, rc, h6, h7, h8⟩

set_option maxRecDepth 100000 in
set_option maxHeartbeats 1600000 in
theorem cmp_any (uo : Option Addr) (un uc : Nat) (U : List Str) (ao : Option Addr) (n cap : Nat) (rs : List Gr) (w : World) (RU : Rd w (.slice uo un uc) (ss U)) (R : RuR w (.slice ao n cap) rs) (hsz : ∀ x ∈ U, x.length ≤ 9223372036854775807) (hun : un ≤ 1000000) (hn : n ≤ 1000000) (hr : ∀ r ∈ rs, r.1.length ≤ 1000000) :
    Calls Try.prog 44 #[.slice uo un uc, .slice ao n cap] w (CmpP U rs w) := by
  obtain ⟨hul, hu1, hu2, _⟩ := rds_open RU
  obtain ⟨l0, hl0, hl1, hl2⟩ := R
  obtain ⟨hnl, hn1, hn2⟩ := hl0.cut
  have HUL := hid_of hul
  have HNL : Hid (n = rs.length) := hid_of (by omega)
  have HUC : Hid (∀ j x, U[j]? = some x → ∃ g o, uo = some ⟨g, o, none⟩ ∧ w.cell? ⟨g, o + j, none⟩ = some (.string (ba x))) := hid_of (fun j x hx => by
    obtain ⟨_, _, _, q3⟩ := rds_open RU
    rcases q3 with q3 | ⟨g, o, e, _, hc⟩
    · rw [q3] at hx; simp at hx
    · exact ⟨g, o, e, hc j x hx⟩)
  have HVA : Hid (∀ x, x ∈ U → ∀ wx, Calls Try.prog 67 #[.string (ba x)] wx fun e w' => e = .returned (.bool (nameB x)) ∧ wx = w') := hid_of (fun x hx wx => (valid_any (ba x) wx (by show x.toArray.size ≤ _; unfold maxLen; simpa using hsz x hx)).mono fun _ _ h => ⟨h.1, h.2.symm⟩)
  have HSO : Hid (Calls Try.prog 68 #[.slice uo un uc] w fun e w' => e = .returned (.bool (ssB U)) ∧ Below w.heap.size w w') := hid_of (sorted_any uo un uc U w RU)
  have HRR : Hid (∀ (j : Nat) (r : Gr) (wx : World), Below w.heap.size w wx → rs[j]? = some r → ∃ (g o : Nat) (io : Option Addr) (ic : Nat), ao = some ⟨g, o, none⟩ ∧ wx.cell? ⟨g, o + j * 2, none⟩ = some (.slice io r.1.length ic) ∧ wx.cell? ⟨g, o + j * 2 + 1, none⟩ = some (.string (ba r.2)) ∧ Rd wx (.slice io r.1.length ic) (ss r.1)) := hid_of (fun j r wx hb hr2 => by
    obtain ⟨t, ht⟩ : ∃ t, l0[j]? = some t := ⟨_, List.getElem?_eq_getElem (by have := (List.getElem?_eq_some_iff.1 hr2).1; omega)⟩
    obtain ⟨q1, q2⟩ := hl2 j t r ht hr2
    obtain ⟨g, o, e, c0, c1⟩ := (hl0.at hb).get ht
    have q3 := q1.at hb
    obtain ⟨io, ic, e2, q4⟩ := q1
    rw [ss_length] at e2
    rw [e2] at q3 c0
    rw [q2] at c1
    exact ⟨g, o, io, ic, e, c0, c1, q3⟩)
  have HRL : Hid (∀ (j : Nat) (r : Gr), rs[j]? = some r → r.1.length ≤ 1000000) := hid_of (fun j r h => hr r (List.mem_of_getElem? h))
  have HIN : Hid (SS U → ∀ (io : Option Addr) (m ic : Nat) (s : List Str) (wx : World), Below w.heap.size w wx → Rd wx (.slice io m ic) (ss s) → m ≤ 1000000 → Calls Try.prog 60 #[.slice uo un uc, .slice io m ic] wx (IndP U s wx)) := hid_of (fun hU io m ic s wx hb hR hm => ind_any uo un uc U io m ic s wx (RU.at hb) hR hU hun hm)
  obtain ⟨i0, hi, hz0, hz1, hz2⟩ := info_parts ruleE.info
  clear hul RU hl0 hl1 hl2 hsz hr hnl
  go_enter Try.func44, Try.ntmps44
  go_wp2
  go_loop [7, 16] (fun xv iv => ∃ (j : Nat) (v : Value), xv = v ∧ j ≤ un ∧ iv = .int .i64 j ∧ Hid (∀ x, x ∈ U.take j → nameB x = true)) (fun _ iv => un - (intOf iv).toNat)
  case atStart => exact ⟨0, _, rfl, Nat.zero_le _, rfl, hid_of (by simp)⟩
  case round =>
    obtain ⟨j, v, rfl, hj, rfl, hnm⟩ := hrel
    by_cases hlt : j < un
    · have hd : decide (j < un) = true := by simp; omega
      obtain ⟨x, hx⟩ : ∃ x, U[j]? = some x := ⟨_, List.getElem?_eq_getElem (by have := HUL.out; omega)⟩
      obtain ⟨g, o, rfl, c1⟩ := HUC.out j x hx
      have HX := hid_of hx
      have HV := hid_of (HVA.out x (List.mem_of_getElem? hx) w)
      obtain ⟨q, hq⟩ : ∃ q, q = nameB x := ⟨_, rfl⟩
      rw [← hq] at HV
      have HQ := hid_of hq
      clear hx hq
      cases q
      · have HE : Hid (CmpP U rs w (.returned (.tuple #[.slice none 0 0, .int .i64 3])) w) := hid_of (by
          have e : chkE U rs = 3 := by
            unfold chkE
            rw [if_pos]
            rw [List.all_eq_false]
            exact ⟨x, List.mem_of_getElem? HX.out, by rw [← HQ.out]; simp⟩
          exact ⟨Below.refl _ _, .inl ⟨by omega, by rw [e]; rfl⟩⟩)
        go_wp2_with (go_at_call 67; ((with_reducible refine (HV.out).mono ?_); (rintro e w' ⟨rfl, rfl⟩)))
        go_ret2
        exact HE.out
      · go_wp2_with (go_at_call 67; ((with_reducible refine (HV.out).mono ?_); (rintro e w' ⟨rfl, rfl⟩)))
        go_round
        case rel => exact ⟨j + 1, _, rfl, by omega, by go_num, hid_of (fun y hy => by
          rw [take_snoc_get HX.out, List.mem_append, List.mem_singleton] at hy
          rcases hy with hy | rfl
          · exact hnm.out y hy
          · exact HQ.out.symm)⟩
        case measure => simp [intOf]; omega
    · have hd : decide (j < un) = false := by simp; omega
      obtain rfl : un = j := by omega
      have HALL : Hid (U.all nameB = true) := hid_of (by
        rw [List.all_eq_true]
        intro x hx
        refine hnm.out x ?_
        rw [List.take_of_length_le (by have := HUL.out; omega)]; exact hx)
      clear hnm hlt HUC HVA
      by_cases hss : SS U
      · have hb : ssB U = true := decide_eq_true hss
        rw [hb] at HSO
        have HSS := hid_of hss
        have HI := hid_of (HIN.out hss)
        clear hss hb HIN
        go_wp2_with (first
          | (go_at_call 68; ((with_reducible refine (HSO.out).mono ?_); (rintro e w1 ⟨rfl, h5⟩)); have B1 := hid_of h5; clear h5)
          | (at_make; (refine wpList_make_own _ rfl _ _ 71 rfl w1.heap.size 90 i0 (.agg #[.slice none 0 0, .slice none 0 0]) 2 Try.underlying71 hi hz0 hz1 .i64 .i64 _ n rfl rfl rfl (by rw [hz2]; omega) (by unfold maxLen; omega) (Nat.le_refl _) ?_); intro w2 hown hgrow; have HO := hid_of ((op_made hown hgrow).start (Nat.le_refl _) B1.out B1.out.size); clear hown hgrow))
        go_loopw [8, 32] (fun rv iv wr => ∃ (j : Nat) (ro : Option Addr) (rc : Nat), rv = .slice ro j rc ∧ j ≤ n ∧ iv = .int .i64 j ∧ Hid (CmI U rs w j (.slice ro j rc) wr)) (fun _ iv _ => n - (intOf iv).toNat)
        case atStart => exact ⟨0, _, _, rfl, Nat.zero_le _, rfl, hid_of ⟨⟨[], [], rfl, ⟨rfl, by intro i r q hr2; simp at hr2⟩, ⟨rfl, by intro i t q ht; simp at ht⟩, HO.out⟩, by simp⟩⟩
        case round =>
          obtain ⟨j, ro, rc, rfl, hj, rfl, hci⟩ := hrel
          obtain ⟨R, l, hlj, hcm, hco, hop⟩ := hci.out.ex
          have HLJ := hid_of hlj
          have HCM := hid_of hcm
          have HCO := hid_of hco
          have HOP := hid_of hop
          clear hlj hcm hco hop
          by_cases hlt : j < n
          · have hd : decide (j < n) = true := by simp; omega
            obtain ⟨r, hr⟩ : ∃ r, rs[j]? = some r := ⟨_, List.getElem?_eq_getElem (by have := HNL.out; omega)⟩
            obtain ⟨g, o, io, ic, rfl, c0, c1, c2⟩ := HRR.out j r wr HOP.out.bel hr
            have HR := hid_of hr
            have hm0 := HRL.out j r hr
            obtain ⟨bt, hbt⟩ : ∃ b, b = ba r.2 := ⟨_, rfl⟩
            obtain ⟨m, hm⟩ : ∃ m, m = r.1.length := ⟨_, rfl⟩
            rw [← hbt] at c1
            rw [← hm] at c0 c2 hm0
            have HBT := hid_of hbt
            have HM := hid_of hm
            have HC2 := hid_of c2
            have hb1 := bel_alloc wr (.cells #[.slice io m ic, .string bt] 41)
            have HB1 := hid_of hb1
            have HI1 := hid_of (HI.out io m ic r.1 _ (HOP.out.bel.trans (hb1.mono HOP.out.size)) (c2.at hb1) hm0)
            have HCS := ruE_cases U r
            have HFAIL : Hid (∀ q, q ≠ 0 → ruE U r = q → ∀ wx, Below w.heap.size w wx → CmpP U rs w (.returned (.tuple #[.slice none 0 0, .int .i64 (q : Nat)])) wx) := hid_of (fun q hq0 hq wx hb => by
              have e : chkE U rs = q := by
                unfold chkE
                rw [if_neg (by rw [HALL.out]; simp), if_neg (by simpa using HSS.out), ← hq]
                exact rusE_first hci.out.ok HR.out (by omega)
              exact ⟨hb, .inl ⟨by omega, by rw [e]⟩⟩)
            have hB0 := hid_of (HOP.out.bel.trans (hb1.mono HOP.out.size))
            clear hr hbt hm c2 hb1
            rcases HCS with ⟨e1, e2⟩ | ⟨e1, e2, e3⟩ | ⟨e1, e2, e3, e4⟩ | ⟨e1, e2, e3, e4⟩
            · have HJ := hid_of (ind_err HI1.out (q := 1) (.inl ⟨rfl, e2⟩))
              have HE := hid_of (HFAIL.out 1 (by decide) e1)
              clear e1 e2
              go_wp2_with (go_at_call 60; ((with_reducible refine (HJ.out).mono ?_); (rintro e w3 ⟨rfl, h5⟩)); have B3 := hid_of h5; clear h5)
              go_ret2
              exact HE.out _ (hB0.out.trans (B3.out.mono hB0.out.size))
            · have HJ := hid_of (ind_err HI1.out (q := 3) (.inr ⟨rfl, e2, e3⟩))
              have HE := hid_of (HFAIL.out 3 (by decide) e1)
              clear e1 e2 e3
              go_wp2_with (go_at_call 60; ((with_reducible refine (HJ.out).mono ?_); (rintro e w3 ⟨rfl, h5⟩)); have B3 := hid_of h5; clear h5)
              go_ret2
              exact HE.out _ (hB0.out.trans (B3.out.mono hB0.out.size))
            · have HJ1 := hid_of (ind_ok HI1.out e2 e3)
              rw [← HM.out] at HJ1
              have HC3 : Hid (∀ w3, Below (wr.alloc (.cells #[.slice io m ic, .string bt] 41)).heap.size (wr.alloc (.cells #[.slice io m ic, .string bt] 41)) w3 → w3.cell? ⟨wr.heap.size, 1, none⟩ = some (.string bt)) := hid_of (fun w3 hb => by
                have q := heap_alloc_new wr (.cells #[.slice io m ic, .string bt] 41)
                have q2 := (hb.block wr.heap.size (by simp)).trans q
                exact blk_cell (cs := [.slice io m ic, .string bt]) q2 rfl)
              have HI2 : Hid (∀ w3, Below (wr.alloc (.cells #[.slice io m ic, .string bt] 41)).heap.size (wr.alloc (.cells #[.slice io m ic, .string bt] 41)) w3 → Calls Try.prog 60 #[.slice uo un uc, .slice (some ⟨w3.heap.size, 0, none⟩) 1 1] (w3.alloc (.cells #[.string bt] 9)) (IndP U [r.2] (w3.alloc (.cells #[.string bt] 9)))) := hid_of (fun w3 hb => by
                have q := hB0.out.trans (hb.mono hB0.out.size)
                refine HI.out _ 1 1 [r.2] _ (q.trans ((bel_alloc w3 _).mono q.size)) ?_ (by omega)
                rw [HBT.out]
                exact rd_new rfl rfl (by simp [ss]))
              have HJ2 : Hid (∀ w3, Below (wr.alloc (.cells #[.slice io m ic, .string bt] 41)).heap.size (wr.alloc (.cells #[.slice io m ic, .string bt] 41)) w3 → Calls Try.prog 60 #[.slice uo un uc, .slice (some ⟨w3.heap.size, 0, none⟩) 1 1] (w3.alloc (.cells #[.string bt] 9)) fun e w' => e = .returned (.tuple #[.slice none 0 0, .int .i64 3]) ∧ Below (w3.alloc (.cells #[.string bt] 9)).heap.size (w3.alloc (.cells #[.string bt] 9)) w') := hid_of (fun w3 hb => ind_err (HI2.out w3 hb) (q := 3) (.inr ⟨rfl, ss_single _, fun h => e4 (h _ (by simp))⟩))
              have HE := hid_of (HFAIL.out 3 (by decide) e1)
              clear e1 e2 e3 e4 HI2
              go_wp2_with (first
                | (go_at_call 60; ((with_reducible refine (HJ1.out).mono ?_); (rintro e w3 ⟨L1, po, pc, rfl, h5, h6⟩)); have B3 := hid_of h6.bel; have c3 := HC3.out w3 h6.bel; clear h5 h6)
                | (go_at_call 60; ((with_reducible refine (HJ2.out w3 B3.out).mono ?_); (rintro e w4 ⟨rfl, h5⟩)); have B4 := hid_of h5; clear h5))
              go_ret2
              have q := hB0.out.trans (B3.out.mono hB0.out.size)
              have q2 := q.trans ((bel_alloc w3 (.cells #[.string bt] 9)).mono q.size)
              exact HE.out _ (q2.trans (B4.out.mono q2.size))
            · have HJ1 := hid_of (ind_ok HI1.out e2 e3)
              rw [← HM.out] at HJ1
              have HC3 : Hid (∀ w3, Below (wr.alloc (.cells #[.slice io m ic, .string bt] 41)).heap.size (wr.alloc (.cells #[.slice io m ic, .string bt] 41)) w3 → w3.cell? ⟨wr.heap.size, 1, none⟩ = some (.string bt)) := hid_of (fun w3 hb => by
                have q := heap_alloc_new wr (.cells #[.slice io m ic, .string bt] 41)
                have q2 := (hb.block wr.heap.size (by simp)).trans q
                exact blk_cell (cs := [.slice io m ic, .string bt]) q2 rfl)
              have HI2 : Hid (∀ w3, Below (wr.alloc (.cells #[.slice io m ic, .string bt] 41)).heap.size (wr.alloc (.cells #[.slice io m ic, .string bt] 41)) w3 → Calls Try.prog 60 #[.slice uo un uc, .slice (some ⟨w3.heap.size, 0, none⟩) 1 1] (w3.alloc (.cells #[.string bt] 9)) (IndP U [r.2] (w3.alloc (.cells #[.string bt] 9)))) := hid_of (fun w3 hb => by
                have q := hB0.out.trans (hb.mono hB0.out.size)
                refine HI.out _ 1 1 [r.2] _ (q.trans ((bel_alloc w3 _).mono q.size)) ?_ (by omega)
                rw [HBT.out]
                exact rd_new rfl rfl (by simp [ss]))
              have HJ2 : Hid (∀ w3, Below (wr.alloc (.cells #[.slice io m ic, .string bt] 41)).heap.size (wr.alloc (.cells #[.slice io m ic, .string bt] 41)) w3 → Calls Try.prog 60 #[.slice uo un uc, .slice (some ⟨w3.heap.size, 0, none⟩) 1 1] (w3.alloc (.cells #[.string bt] 9)) fun e w' => ∃ (L : List Nat) (ro : Option Addr) (rc : Nat), e = .returned (.tuple #[.slice ro 1 rc, .int .i64 0]) ∧ Ix U [r.2] L ∧ Ow 3 (w3.alloc (.cells #[.string bt] 9)).heap.size (w3.alloc (.cells #[.string bt] 9)) w' (.slice ro 1 rc) (ints L)) := hid_of (fun w3 hb => ind_ok (HI2.out w3 hb) (ss_single _) (fun x hx => by rw [List.mem_singleton.1 hx]; exact e4))
              have HOK : Hid (∀ q, q ∈ rs.take (j + 1) → ruE U q = 0) := hid_of (fun q hq => by
                rw [take_snoc_get HR.out, List.mem_append, List.mem_singleton] at hq
                rcases hq with hq | rfl
                · exact hci.out.ok q hq
                · exact e1)
              have HST : Hid (∀ (w3 w4 w6 : World) (L1 L2 : List Nat) (po qo ao2 : Option Addr) (pc qc n2 c2 : Nat), Ix U r.1 L1 → Ow 3 (wr.alloc (.cells #[.slice io m ic, .string bt] 41)).heap.size (wr.alloc (.cells #[.slice io m ic, .string bt] 41)) w3 (.slice po m pc) (ints L1) → Ix U [r.2] L2 →
                  Ow 3 (w3.alloc (.cells #[.string bt] 9)).heap.size (w3.alloc (.cells #[.string bt] 9)) w4 (.slice qo 1 qc) (ints L2) → n2 = l.length + [(Value.slice po m pc, Value.slice qo 1 qc)].length → OP 90 w.heap.size w w6 (.slice ao2 n2 c2) (l ++ [(Value.slice po m pc, Value.slice qo 1 qc)]) → (w4.alloc (.cells #[.slice po m pc, .slice qo 1 qc] 90)).grownBy w6 (Value.slice ro j rc).ownBlock → n2 = j + 1 ∧ CmI U rs w (j + 1) (.slice ao2 n2 c2) w6) := hid_of (fun w3 w4 w6 L1 L2 po qo ao2 pc qc n2 c2 x1 o1 x2 o2 hn2 hop2 hg => by
                have l1 : L1.length = m := by rw [x1.len, HM.out]
                have l2 : L2.length = 1 := by rw [x2.len]; rfl
                have b3 := o1.bel
                have b4 := o2.bel
                have p1 := bel_alloc w3 (.cells #[.string bt] 9)
                have p2 := bel_alloc w4 (.cells #[.slice po m pc, .slice qo 1 qc] 90)
                have t1 : Below w3.heap.size w3 w4 := p1.trans (b4.mono p1.size)
                have t2 : Below w3.heap.size w3 (w4.alloc (.cells #[.slice po m pc, .slice qo 1 qc] 90)) := t1.trans (p2.mono t1.size)
                have t3 : Below wr.heap.size wr w3 := HB1.out.trans (b3.mono HB1.out.size)
                have t4 := t3.trans (t2.mono t3.size)
                have g1 : w3.ownsRow w.heap.size 3 1 (.slice po m pc) L1.length (ints L1) := by have := own_weak (B' := w.heap.size) o1.own (Nat.le_trans hB0.out.size (Nat.le_refl _)); rw [ints_length] at this; exact this
                have g2 : w4.ownsRow w.heap.size 3 1 (.slice qo 1 qc) L2.length (ints L2) := by have := own_weak (B' := w.heap.size) o2.own (by have z0 := hB0.out.size; have z := b3.size; have z2 := p1.size; omega); rw [ints_length] at this; exact this
                have g1' := own_same g1 fun k hk => t2.block k (own_lt g1 hk)
                have g2' := own_same g2 fun k hk => p2.block k (own_lt g2 hk)
                have hop3 := HOP.out.later t4
                have hn3 : n2 = j + 1 := by simp at hn2; have := HLJ.out; omega
                refine ⟨hn3, ⟨R ++ [(L1, L2)], l ++ [(Value.slice po m pc, Value.slice qo 1 qc)], by simp [HLJ.out], ?_, ?_, hop2⟩, HOK.out⟩
                · refine ⟨by rw [take_snoc_get HR.out]; simp [HCM.out.len], fun i r' q' hr' hq' => ?_⟩
                  rw [take_snoc_get HR.out] at hr'
                  have hlen := HCM.out.len
                  by_cases hi : i < R.length
                  · rw [List.getElem?_append_left (by omega)] at hr'
                    rw [List.getElem?_append_left hi] at hq'
                    exact HCM.out.at_ i r' q' hr' hq'
                  · have e : i = R.length := by have := (List.getElem?_eq_some_iff.1 hq').1; simp at this; omega
                    subst e
                    rw [List.getElem?_append_right (Nat.le_refl _)] at hq'
                    rw [List.getElem?_append_right (by omega)] at hr'
                    simp [← hlen] at hr' hq'
                    subst hr' hq'
                    exact ⟨x1, x2⟩
                · have hco := HCO.out
                  refine ⟨by simp [hco.1], fun i t' q' ht' hq' => ?_⟩
                  by_cases hi : i < R.length
                  · rw [List.getElem?_append_left (by rw [hco.1]; exact hi)] at ht'
                    rw [List.getElem?_append_left hi] at hq'
                    have := (hco.at t4).2 i t' q' ht' hq'
                    exact ⟨own_grown this.1 hop3.own (by decide) hg, own_grown this.2 hop3.own (by decide) hg⟩
                  · have e : i = R.length := by have := (List.getElem?_eq_some_iff.1 hq').1; simp at this; omega
                    subst e
                    rw [List.getElem?_append_right (Nat.le_refl _)] at hq'
                    rw [List.getElem?_append_right (by rw [hco.1]; exact Nat.le_refl _)] at ht'
                    simp [hco.1] at ht' hq'
                    subst ht' hq'
                    exact ⟨own_grown g1' hop3.own (by decide) hg, own_grown g2' hop3.own (by decide) hg⟩)
              have HOPW : Hid (∀ (w3 w4 : World) (o : Obj), Below (wr.alloc (.cells #[.slice io m ic, .string bt] 41)).heap.size (wr.alloc (.cells #[.slice io m ic, .string bt] 41)) w3 → Below (w3.alloc (.cells #[.string bt] 9)).heap.size (w3.alloc (.cells #[.string bt] 9)) w4 → OP 90 w.heap.size w (w4.alloc o) (.slice ro j rc) l) := hid_of (fun w3 w4 o b3 b4 => by
                have t1 := HB1.out.trans (b3.mono HB1.out.size)
                have t2 := t1.trans ((bel_alloc w3 (.cells #[.string bt] 9)).mono t1.size)
                have t3 := t2.trans (b4.mono t2.size)
                exact HOP.out.later (t3.trans ((bel_alloc w4 o).mono t3.size)))
              have HLB : Hid (l.length ≤ 1000000) := hid_of (by have := HLJ.out; omega)
              clear e1 e2 e3 e4 HI2
              go_wp2_with (first
                | (go_at_call 60; ((with_reducible refine (HJ1.out).mono ?_); (rintro e w3 ⟨L1, po, pc, rfl, h5, h6⟩)); have X1 := hid_of h5; have O1 := hid_of h6; have c3 := HC3.out w3 h6.bel; clear h5 h6)
                | (go_at_call 60; ((with_reducible refine (HJ2.out w3 O1.out.bel).mono ?_); (rintro e w4 ⟨L2, qo, qc, rfl, h5, h6⟩)); have X2 := hid_of h5; have O2 := hid_of h6; clear h5 h6)
                | (at_builtin; (refine wpList_pr ruleE rfl (.tmp 57) (.tmp 61) rfl (v := .slice ro j rc) (l := l) rfl (HOPW.out w3 w4 _ O1.out.bel O2.out.bel) (vx := .slice (some ⟨w4.heap.size, 0, none⟩) 1 1) (m := [(Value.slice po m pc, Value.slice qo 1 qc)]) rfl prd_new (by intro u hu; simp [prs] at hu; rcases hu with rfl | rfl <;> rfl) (by have := HLB.out; simp only [List.length_singleton]; omega) (by have := HLB.out; simp only [List.length_singleton]; omega) ?_); intro ao2 n2 c2 w6 h5 h6 h7; have SS6 := hid_of (HST.out w3 w4 w6 L1 L2 po qo ao2 pc qc n2 c2 X1.out O1.out X2.out O2.out h5 h6 h7); clear h5 h6 h7))
              go_roundw
              case rel => exact ⟨j + 1, ao2, c2, by rw [SS6.out.1], by omega, by go_num, hid_of (by rw [← SS6.out.1]; have h5 := SS6.out.2; rw [← SS6.out.1] at h5; exact h5)⟩
              case measure => simp [intOf]; omega
          · have hd : decide (j < n) = false := by simp; omega
            obtain rfl : j = n := by omega
            have HE : Hid (CmpP U rs w (.returned (.tuple #[.slice ro rs.length rc, .int .i64 0])) wr) := hid_of (by
              have e1 : rs.take j = rs := List.take_of_length_le (by have := HNL.out; omega)
              have hok := hci.out.ok
              have hcm := HCM.out
              rw [e1] at hok hcm
              have e : chkE U rs = 0 := by
                unfold chkE
                rw [if_neg (by rw [HALL.out]; simp), if_neg (by simpa using HSS.out)]
                exact rusE_zero hok
              refine ⟨HOP.out.bel, .inr ⟨e, R, ro, rc, rfl, hcm, l, ?_, HCO.out⟩⟩
              have := HOP.out.prd
              rw [← HNL.out]; exact this)
            rw [← HNL.out] at HE
            clear hlt
            go_wp2
            go_ret2
            exact HE.out
      · have hb : ssB U = false := decide_eq_false hss
        rw [hb] at HSO
        have HE : Hid (∀ w1, Below w.heap.size w w1 → CmpP U rs w (.returned (.tuple #[.slice none 0 0, .int .i64 1])) w1) := hid_of (fun w1 hb => by
          have e : chkE U rs = 1 := by
            unfold chkE
            rw [if_neg (by rw [HALL.out]; simp), if_pos hss]
          exact ⟨hb, .inl ⟨by omega, by rw [e]; rfl⟩⟩)
        clear hss hb
        go_wp2_with (go_at_call 68; ((with_reducible refine (HSO.out).mono ?_); (rintro e w1 ⟨rfl, h5⟩)); have B1 := hid_of h5; clear h5)
        go_ret2
        exact HE.out _ B1.out
end Go.Proofs.Ytjponegeidiheaa
