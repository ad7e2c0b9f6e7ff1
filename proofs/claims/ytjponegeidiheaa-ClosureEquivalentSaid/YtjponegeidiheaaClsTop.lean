/- Check, Close, Closed, Entails of package closure. Bounds on sizes alone. -/
import Derived.Test.YtjponegeidiheaaClsNms
namespace Go.Proofs.Ytjponegeidiheaa
open Go.RowKit

/-- The universe and the rules as they came in. -/
structure InU (w : World) (uo : Option Addr) (un uc : Nat) (U : List Str) (ro : Option Addr) (rn rc : Nat) (rs : List Gr) : Prop where
  ru : Rd w (.slice uo un uc) (ss U)
  rr : RuR w (.slice ro rn rc) rs
  hz : ∀ x ∈ U, x.length ≤ 9223372036854775807
  un : un ≤ 1000000
  rn : rn ≤ 1000000
  rl : ∀ r ∈ rs, r.1.length ≤ 1000000
section
variable {w w' : World} {uo : Option Addr} {un uc : Nat} {U : List Str} {ro : Option Addr} {rn rc : Nat} {rs : List Gr}
theorem InU.at (h : InU w uo un uc U ro rn rc rs) (hb : Below w.heap.size w w') : InU w' uo un uc U ro rn rc rs := ⟨h.ru.at hb, h.rr.at hb, h.hz, h.un, h.rn, h.rl⟩
theorem InU.ul (h : InU w uo un uc U ro rn rc rs) : un = U.length := (rds_open h.ru).1
theorem InU.rlen (h : InU w uo un uc U ro rn rc rs) : rn = rs.length := by
  obtain ⟨l, h1, h2, _⟩ := h.rr
  have := h1.cut.1; omega
theorem cmp_err (h : InU w uo un uc U ro rn rc rs) {q : Nat} (hq : chkE U rs = q) (h0 : q ≠ 0) : Calls Try.prog 44 #[.slice uo un uc, .slice ro rn rc] w fun e w' => e = .returned (.tuple #[.slice none 0 0, .int .i64 (q : Int)]) ∧ Below w.heap.size w w' :=
  (cmp_any uo un uc U ro rn rc rs w h.ru h.rr h.hz h.un h.rn h.rl).mono fun e w' ⟨h1, h2⟩ => by
    rcases h2 with ⟨_, h3⟩ | ⟨h3, _⟩
    · exact ⟨by rw [h3, hq], h1⟩
    · omega
theorem cmp_good (h : InU w uo un uc U ro rn rc rs) (hq : chkE U rs = 0) : Calls Try.prog 44 #[.slice uo un uc, .slice ro rn rc] w fun e w' => ∃ (R : List Hrl) (ao : Option Addr) (cap : Nat), e = .returned (.tuple #[.slice ao rn cap, .int .i64 0]) ∧ Cmp U rs R ∧ CoR w.heap.size w' (.slice ao rn cap) R ∧ Below w.heap.size w w' :=
  (cmp_any uo un uc U ro rn rc rs w h.ru h.rr h.hz h.un h.rn h.rl).mono fun e w' ⟨h1, h2⟩ => by
    rcases h2 with ⟨h3, _⟩ | ⟨_, R, ao, cap, h3, h4, h5⟩
    · omega
    · rw [← h.rlen] at h3 h5
      exact ⟨R, ao, cap, h3, h4, h5, h1⟩
theorem chk_le (U : List Str) (rs : List Gr) : chkE U rs ≤ 3 := by
  unfold chkE
  split
  · omega
  · split
    · omega
    · induction rs with
      | nil => simp [rusE]
      | cons r rs ih =>
        rw [rusE]
        split
        · exact ih
        · rcases ruE_cases U r with ⟨e, _⟩ | ⟨e, _⟩ | ⟨e, _⟩ | ⟨e, _⟩ <;> omega
end
set_option maxRecDepth 100000 in
theorem check_any (uo : Option Addr) (un uc : Nat) (U : List Str) (ro : Option Addr) (rn rc : Nat) (rs : List Gr) (w : World) (h : InU w uo un uc U ro rn rc rs) :
    Calls Try.prog 18 #[.slice uo un uc, .slice ro rn rc] w fun e w' => e = .returned (.int .i64 (chkE U rs : Nat)) ∧ Below w.heap.size w w' := by
  by_cases h0 : chkE U rs = 0
  · have HC := hid_of (cmp_good h h0)
    have HQ := hid_of h0
    clear h h0
    go_enter Try.func18, Try.ntmps18
    go_wp2_with (go_at_call 44; ((with_reducible refine (HC.out).mono ?_); (rintro e w1 ⟨R, ao, cap, rfl, _, _, h5⟩)); have B1 := hid_of h5; clear h5)
    go_ret
    exact ⟨by rw [HQ.out]; rfl, B1.out⟩
  · have HC := hid_of (cmp_err h rfl h0)
    obtain ⟨q, hq⟩ : ∃ q, q = chkE U rs := ⟨_, rfl⟩
    rw [← hq] at HC ⊢
    clear h h0 hq
    go_enter Try.func18, Try.ntmps18
    go_wp2_with (go_at_call 44; ((with_reducible refine (HC.out).mono ?_); (rintro e w1 ⟨rfl, h5⟩)); have B1 := hid_of h5; clear h5)
    go_ret
    exact ⟨rfl, B1.out⟩

def CwsP (U : List Str) (rs : List Gr) (s : List Str) (rn sn : Nat) (w : World) (e : Ending) (w' : World) : Prop :=
  ∃ (R : List Hrl) (L : List Nat) (ao lo : Option Addr) (cap lc : Nat), e = .returned (.tuple #[.slice ao rn cap, .slice lo sn lc, .int .i64 0]) ∧ Cmp U rs R ∧ CoR w.heap.size w' (.slice ao rn cap) R ∧ Ix U s L ∧ w'.ownsRow 0 3 1 (.slice lo sn lc) L.length (ints L) ∧ Below w.heap.size w w'
set_option maxRecDepth 100000 in
theorem cws_err (uo : Option Addr) (un uc : Nat) (U : List Str) (ro : Option Addr) (rn rc : Nat) (rs : List Gr) (so : Option Addr) (sn sc : Nat) (s : List Str) (w : World) (h : InU w uo un uc U ro rn rc rs) (hS : Rd w (.slice so sn sc) (ss s)) (hsn : sn ≤ 1000000) (q : Nat) (hq : cwsE U rs s = q) (hq0 : q ≠ 0) :
    Calls Try.prog 45 #[.slice uo un uc, .slice ro rn rc, .slice so sn sc] w fun e w' => e = .returned (.tuple #[.slice none 0 0, .slice none 0 0, .int .i64 (q : Int)]) ∧ Below w.heap.size w w' := by
  have t1 : ((q : Int) != 0) = true := by simp; omega
  have t2 : ((q : Int) == 0) = false := by simp; omega
  by_cases h0 : chkE U rs = 0
  · have e0 : setE U s = q := by unfold cwsE at hq; rwa [if_pos h0] at hq
    have HC := hid_of (cmp_good h h0)
    have HI : Hid (∀ w1, Below w.heap.size w w1 → Calls Try.prog 60 #[.slice uo un uc, .slice so sn sc] w1 fun e w' => e = .returned (.tuple #[.slice none 0 0, .int .i64 (q : Int)]) ∧ Below w1.heap.size w1 w') := hid_of (fun w1 hb => by
      refine ind_err (ind_any uo un uc U so sn sc s w1 (h.ru.at hb) (hS.at hb) (chk_ok h0).1 h.un hsn) ?_
      unfold setE at e0
      split at e0
      · exact .inl ⟨by omega, by assumption⟩
      · split at e0
        · rename_i h1 h2
          exact .inr ⟨by omega, Classical.not_not.1 h1, h2⟩
        · omega)
    clear h hS h0 hq e0 hq0
    go_enter Try.func45, Try.ntmps45
    go_wp2_with (first
      | (go_at_call 44; ((with_reducible refine (HC.out).mono ?_); (rintro e w1 ⟨R, ao, cap, rfl, _, _, h5⟩)); have B1 := hid_of h5; clear h5)
      | (go_at_call 60; ((with_reducible refine (HI.out w1 B1.out).mono ?_); (rintro e w2 ⟨rfl, h5⟩)); have B2 := hid_of h5; clear h5))
    go_ret3
    exact ⟨rfl, B1.out.trans (B2.out.mono B1.out.size)⟩
  · have e0 : chkE U rs = q := by unfold cwsE at hq; rwa [if_neg h0] at hq
    have HC := hid_of (cmp_err h e0 hq0)
    clear h hS h0 hq e0 hq0
    go_enter Try.func45, Try.ntmps45
    go_wp2_with (go_at_call 44; ((with_reducible refine (HC.out).mono ?_); (rintro e w1 ⟨rfl, h5⟩)); have B1 := hid_of h5; clear h5)
    go_ret3
    exact ⟨rfl, B1.out⟩
set_option maxRecDepth 100000 in
theorem cws_good (uo : Option Addr) (un uc : Nat) (U : List Str) (ro : Option Addr) (rn rc : Nat) (rs : List Gr) (so : Option Addr) (sn sc : Nat) (s : List Str) (w : World) (h : InU w uo un uc U ro rn rc rs) (hS : Rd w (.slice so sn sc) (ss s)) (hsn : sn ≤ 1000000) (hq : cwsE U rs s = 0) :
    Calls Try.prog 45 #[.slice uo un uc, .slice ro rn rc, .slice so sn sc] w (CwsP U rs s rn sn w) := by
  have h0 : chkE U rs = 0 := by unfold cwsE at hq; split at hq; assumption; assumption
  have e0 : setE U s = 0 := by unfold cwsE at hq; rwa [if_pos h0] at hq
  have e1 := setE_zero.1 e0
  have hsl : sn = s.length := (rds_open hS).1
  have HC := hid_of (cmp_good h h0)
  have HI : Hid (∀ w1, Below w.heap.size w w1 → Calls Try.prog 60 #[.slice uo un uc, .slice so sn sc] w1 fun e w' => ∃ (L : List Nat) (ro : Option Addr) (rc : Nat), e = .returned (.tuple #[.slice ro sn rc, .int .i64 0]) ∧ Ix U s L ∧ Ow 3 w1.heap.size w1 w' (.slice ro sn rc) (ints L)) := hid_of (fun w1 hb => by
    have := ind_ok (ind_any uo un uc U so sn sc s w1 (h.ru.at hb) (hS.at hb) (chk_ok h0).1 h.un hsn) e1.1 e1.2
    rw [← hsl] at this; exact this)
  clear h hS h0 hq e0 e1 hsl
  go_enter Try.func45, Try.ntmps45
  go_wp2_with (first
    | (go_at_call 44; ((with_reducible refine (HC.out).mono ?_); (rintro e w1 ⟨R, ao, cap, rfl, h4, h6, h5⟩)); have B1 := hid_of h5; have C1 := hid_of h4; have R1 := hid_of h6; clear h5 h4 h6)
    | (go_at_call 60; ((with_reducible refine (HI.out w1 B1.out).mono ?_); (rintro e w2 ⟨L, lo, lc, rfl, h5, h6⟩)); have X2 := hid_of h5; have O2 := hid_of h6; clear h5 h6))
  go_ret3
  refine ⟨R, L, ao, lo, cap, lc, rfl, C1.out, R1.out.at O2.out.bel, X2.out, ?_, B1.out.trans (O2.out.bel.mono B1.out.size)⟩
  have := own_base O2.out.own
  rw [ints_length] at this; exact this

/-- The closure of a set of names, as Close gives it. -/
def CloseP (U : List Str) (rs : List Gr) (s : List Str) (w : World) (e : Ending) (w' : World) : Prop :=
  ∃ (l : List Str) (ao : Option Addr) (cap : Nat), e = .returned (.tuple #[.slice ao l.length cap, .int .i64 0]) ∧ Ow 9 w.heap.size w w' (.slice ao l.length cap) (ss l) ∧ SS l ∧ (∀ x, x ∈ l ↔ DerS rs (fun x => x ∈ s) x) ∧ ∀ x ∈ l, x ∈ U
theorem ow_later0 {E : TypeId} {w w1 w2 : World} {v : Value} {l : List Value} (h : Ow E w1.heap.size w1 w2 v l) (hb : Below w.heap.size w w1) : Ow E w.heap.size w w2 v l := h.start (Nat.le_refl _) hb hb.size
/-- What a chase makes of a set, in names. -/
theorem clo_names {U : List Str} {rs : List Gr} {R : List Hrl} {s : List Str} {L T : List Nat} (hq : chkE U rs = 0) (hc : Cmp U rs R) (hL : Ix U s L) (hT : ∀ x, x ∈ T ↔ Der (On R off0) (fun x => x ∈ L) x) : (∀ x, x ∈ nmF U (mems T U.length) ↔ DerS rs (fun x => x ∈ s) x) ∧ ∀ x ∈ nmF U (mems T U.length), x ∈ U := by
  obtain ⟨hU, hok⟩ := chk_ok hq
  refine ⟨fun x => ?_, fun x hx => ?_⟩
  · rw [mem_nmF]
    constructor
    · rintro ⟨i, hi, hx⟩
      exact der_toS hc hL ((hT i).1 hi) x hx
    · intro hd
      obtain ⟨i, h1, h2⟩ := derS_to hU hc hL (fun r hr => ⟨(hok r hr).2.1, (hok r hr).2.2⟩) hd
      exact ⟨i, (hT i).2 h2, h1⟩
  · obtain ⟨i, _, h2⟩ := mem_nmF.1 hx
    exact List.mem_of_getElem? h2
/-- A chase that has been made, closed over a set. -/
theorem clo_made {w w1 : World} {c n : Nat} {R : List Hrl} {L : List Nat} {lv : Value} {B : Nat} (h : NewI B w c n R w1) (hn : n ≤ 1000000) (hL : w.ownsRow 0 3 1 lv L.length (ints L)) (hl : ∀ x ∈ L, x < n) :
    Calls Try.prog 47 #[.pointer (some ⟨c, 0, none⟩), lv] w1 fun e w' => e = .returned (.tuple #[]) ∧ ∃ T V S, CH w' c n R (lackR R off0 (T.take T.length)) (memB T) T T.length V S ∧ Below w.heap.size w w' ∧ (∀ b, S b → w.heap.size ≤ b) ∧ ∀ x, x ∈ T ↔ Der (On R off0) (fun x => x ∈ L) x := by
  obtain ⟨V, S, h1, h2, h3, _⟩ := h
  have hL1 := own_same hL fun k hk => h2.block k (own_lt hL hk)
  refine (clo_any c n 0 R off0 [] V S L lv w1 h1 (Nat.zero_le _) (own_rd hL1) (fun g hg => ⟨own_lt hL1 hg, fun hs => by have := own_lt hL hg; have := h3 g hs; omega⟩) hl hn (fun _ => by unfold off0; omega)).mono ?_
  rintro e w' ⟨rfl, T', tv, S', q1, q2, q3⟩
  refine ⟨rfl, T', _, S', q1, h2.trans (q2.below h2.size h3), fun b hb => ?_, q3⟩
  rcases q2.sub b hb with h5 | h5
  · exact h3 b h5
  · have := h2.size; omega
set_option maxRecDepth 100000 in
set_option maxHeartbeats 800000 in
theorem close_any (uo : Option Addr) (un uc : Nat) (U : List Str) (ro : Option Addr) (rn rc : Nat) (rs : List Gr) (so : Option Addr) (sn sc : Nat) (s : List Str) (w : World) (h : InU w uo un uc U ro rn rc rs) (hS : Rd w (.slice so sn sc) (ss s)) (hsn : sn ≤ 1000000) (hq : cwsE U rs s = 0) :
    Calls Try.prog 20 #[.slice uo un uc, .slice ro rn rc, .slice so sn sc] w (CloseP U rs s w) := by
  have h0 : chkE U rs = 0 := by unfold cwsE at hq; split at hq; assumption; assumption
  have HC := hid_of (cws_good uo un uc U ro rn rc rs so sn sc s w h hS hsn hq)
  have hul := h.ul
  have hun := h.un
  have hrn := h.rn
  have HN : Hid (∀ w1 R ao cap, Cmp U rs R → CoR w.heap.size w1 (.slice ao rn cap) R → Calls Try.prog 46 #[.int .i64 un, .slice ao rn cap] w1 (NewP w.heap.size w1 un R)) := hid_of (fun w1 R ao cap hc hco => new_any w.heap.size un R ao rn cap w1 hco (by rw [hul]; exact cmp_ok (chk_ok h0).1 hc fun r hr => ((chk_ok h0).2 r hr).1) hun hrn)
  have HCL : Hid (∀ w1 w2 c R L lv, Ix U s L → w1.ownsRow 0 3 1 lv L.length (ints L) → NewI w.heap.size w1 c un R w2 → Calls Try.prog 47 #[.pointer (some ⟨c, 0, none⟩), lv] w2 fun e w' => e = .returned (.tuple #[]) ∧ ∃ T V S, CH w' c un R (lackR R off0 (T.take T.length)) (memB T) T T.length V S ∧ Below w1.heap.size w1 w' ∧ (∀ b, S b → w1.heap.size ≤ b) ∧ ∀ x, x ∈ T ↔ Der (On R off0) (fun x => x ∈ L) x) := hid_of (fun w1 w2 c R L lv hix hl hni => clo_made hni hun hl fun x hx => by rw [hul]; exact hix.lt hx)
  have HME : Hid (∀ w3 c R lk T V S, CH w3 c un R lk (memB T) T T.length V S → Calls Try.prog 49 #[.pointer (some ⟨c, 0, none⟩)] w3 fun e w' => ∃ ao cap, e = .returned (.slice ao (mems T un).length cap) ∧ Ow 3 w3.heap.size w3 w' (.slice ao (mems T un).length cap) (ints (mems T un))) := hid_of (fun w3 c R lk T V S hch => mem_any c un T.length R lk T V S w3 hch hun)
  have HNM : Hid (∀ w4 T ao cap, Below w.heap.size w w4 → (mems T un).length ≤ 1000000 → Rd w4 (.slice ao (mems T un).length cap) (ints (mems T un)) → Calls Try.prog 48 #[.slice uo un uc, .slice ao (mems T un).length cap] w4 fun e w' => ∃ ro rc, e = .returned (.slice ro (mems T un).length rc) ∧ Ow 9 w4.heap.size w4 w' (.slice ro (mems T un).length rc) (ss (nmF U (mems T un)))) := hid_of (fun w4 T ao cap hb hml hr => nmd_any uo un uc U ao _ cap (mems T un) w4 (h.ru.at hb) hr (fun i hi => by rw [← hul]; exact (mem_mems.1 hi).1) hml)
  have HFIN : Hid (∀ w5 R L T ao cap, Cmp U rs R → Ix U s L → (∀ x, x ∈ T ↔ Der (On R off0) (fun x => x ∈ L) x) → Ow 9 w.heap.size w w5 (.slice ao (mems T un).length cap) (ss (nmF U (mems T un))) → CloseP U rs s w (.returned (.tuple #[.slice ao (mems T un).length cap, .int .i64 0])) w5) := hid_of (fun w5 R L T ao cap hc hix hT how => by
    obtain ⟨q1, q2⟩ := clo_names h0 hc hix hT
    have e := nmF_length U (mems T un)
    refine ⟨nmF U (mems T un), ao, cap, by rw [e], by rw [e]; exact how, by rw [hul]; exact nmF_ss (chk_ok h0).1 T, by rw [hul]; exact q1, by rw [hul]; exact q2⟩)
  have HUN := hid_of hun
  clear h hS h0 hq hul hrn
  have huc : un ≤ 9223372036854775807 := by omega
  clear hun
  go_enter Try.func20, Try.ntmps20
  go_wp2_with (first
    | (go_at_call 45; ((with_reducible refine (HC.out).mono ?_); (rintro e w1 ⟨R, L, ao, lo, cap, lc, rfl, h1, h2, h3, h4, h5⟩)); have C1 := hid_of h1; have C2 := hid_of h2; have C3 := hid_of h3; have C4 := hid_of h4; have B1 := hid_of h5; clear h1 h2 h3 h4 h5)
    | (go_at_call 46; ((with_reducible refine (HN.out w1 R ao cap C1.out C2.out).mono ?_); (rintro e w2 ⟨c, rfl, _, h1⟩)); have N2 := hid_of h1; clear h1)
    | (go_at_call 47; ((with_reducible refine (HCL.out w1 w2 c R L _ C3.out C4.out N2.out).mono ?_); (rintro e w3 ⟨rfl, T, V, S, h1, h2, h3, h4⟩)); have D1 := hid_of h1; have D2 := hid_of h2; have D4 := hid_of h4; clear h1 h2 h3 h4)
    | (go_at_call 49; ((with_reducible refine (HME.out w3 c R _ T V S D1.out).mono ?_); (rintro e w4 ⟨mo, mc, rfl, h1⟩)); have O4 := hid_of h1; have B4 : Hid (Below w.heap.size w w4) := hid_of (by
        have q := B1.out.trans (D2.out.mono B1.out.size)
        exact q.trans (h1.bel.mono q.size)); have R4 := hid_of (own_rd h1.own); have ML : Hid ((mems T un).length ≤ 1000000) := hid_of (Nat.le_trans (mems_length D1.out.nd un) (Nat.le_trans D1.out.len HUN.out)); clear h1)
    | (go_at_call 48; ((with_reducible refine (HNM.out w4 T mo mc B4.out ML.out R4.out).mono ?_); (rintro e w5 ⟨no, nc, rfl, h1⟩)); have O5 := hid_of (ow_later0 h1 B4.out); clear h1))
  go_ret2
  exact HFIN.out w5 R L T no nc C1.out C3.out D4.out O5.out
end Go.Proofs.Ytjponegeidiheaa
