/- Parse of package names. Bounds on sizes alone. -/
import Derived.Test.YtpbjnbceloibnaaNamWrd
namespace Go.Proofs.Ytpbjnbceloibnaa
open Go.RowKit

def SPost (b : Nat) (s : ByteArray) (RES : Got) (w : World) (e : Ending) (w' : World) : Prop :=
  KB b w w' ∧ ((∃ (acc : List Str) (xo : Option Addr) (xc : Nat), RES = ⟨setOf acc, 0, 0⟩ ∧ acc.length ≤ 1000000 ∧ e = .returned (.tuple #[.slice xo acc.length xc, .int .i64 0]) ∧ w'.ownsRow w.heap.size 9 1 (.slice xo acc.length xc) acc.length (ss acc)) ∨
    (∃ (pl : Nat) (c : Int), RES = bad pl c ∧ (c = 2 ∨ c = 3) ∧ e = .returned (.tuple #[.slice none 0 0, .int .i64 c]) ∧ Pst w' b s pl))
theorem spost_bad {b : Nat} {s : ByteArray} {RES : Got} {w w' : World} {pl : Nat} {c : Int} (h : RES = bad pl c) (hc : c = 2 ∨ c = 3) (hk : KB b w w') (hp : Pst w' b s pl) : SPost b s RES w (.returned (.tuple #[.slice none 0 0, .int .i64 c])) w' :=
  ⟨hk, .inr ⟨pl, c, h, hc, rfl, hp⟩⟩
theorem spost_ok {b : Nat} {s : ByteArray} {RES : Got} {w w' : World} {acc : List Str} {xo : Option Addr} {xc : Nat} (h : RES = ⟨setOf acc, 0, 0⟩) (hl : acc.length ≤ 1000000) (hk : KB b w w') (ho : w'.ownsRow w.heap.size 9 1 (.slice xo acc.length xc) acc.length (ss acc)) : SPost b s RES w (.returned (.tuple #[.slice xo acc.length xc, .int .i64 0])) w' :=
  ⟨hk, .inl ⟨acc, xo, xc, h, hl, rfl, ho⟩⟩
theorem fin_bad {s : ByteArray} {p q : Nat} {acc : List Str} (hq : q = sk s p) (h : q < s.size) : fin s p acc = bad q 2 := by subst hq; rw [fin, if_pos h]
theorem fin_ok {s : ByteArray} {p q : Nat} {acc : List Str} (hq : q = sk s p) (h : ¬ q < s.size) : fin s p acc = ⟨setOf acc, 0, 0⟩ := by subst hq; rw [fin, if_neg h]

set_option maxRecDepth 100000 in
set_option maxHeartbeats 1600000 in
theorem set_any (b : Nat) (s : ByteArray) (w : World) (RES : Got) (hs : s.size ≤ 1000000) (H : Pst w b s 0) (hR : parseF s = RES) :
    Calls Try.prog 48 #[.pointer (some ⟨b, 0, none⟩)] w (SPost b s RES w) := by
  have HB : Hid (b < w.heap.size) := hid_of H.lt
  have HP := hid_of H
  obtain ⟨a, ha⟩ : ∃ a, a = sk s 0 := ⟨_, rfl⟩
  have ha2 : a ≤ s.size := by rw [ha]; exact (sk_spec s 0).2.2.1 (Nat.zero_le _)
  have HA := hid_of ha
  clear ha H
  by_cases h1 : gt s a = 123
  · have halt : a < s.size := gt_in (by rw [h1]; decide)
    have SY := hid_of (sign_yes b s 0 123 w hs (Nat.zero_le _) HP.out (by rw [← HA.out]; exact h1) (by decide))
    rw [← HA.out] at SY
    obtain ⟨c, hc⟩ : ∃ c, c = sk s (a + 1) := ⟨_, rfl⟩
    have hc2 : c ≤ s.size := by rw [hc]; exact (sk_spec s _).2.2.1 (by omega)
    have HC := hid_of hc
    have HA1 : Hid (a + 1 ≤ s.size) := hid_of (by omega)
    have HCL : Hid (c ≤ s.size) := hid_of hc2
    clear hc ha2 hc2 halt
    by_cases h2 : gt s c = 125
    · have hclt : c < s.size := gt_in (by rw [h2]; decide)
      have HRES : Hid (RES = fin s (c + 1) []) := hid_of (by rw [← hR, parseF, ← HA.out, if_neg (by simp [h1]), ← HC.out, if_pos h2])
      have HG2 : Hid (gt s (sk s (a + 1)) = 125) := hid_of (by rw [← HC.out]; exact h2)
      have HC1 : Hid (c + 1 ≤ s.size) := hid_of (by omega)
      obtain ⟨q, hq⟩ : ∃ q, q = sk s (c + 1) := ⟨_, rfl⟩
      have HQ := hid_of hq
      clear h1 h2 hR hq hclt
      by_cases hlt : q < s.size
      · have dq : decide (q < s.size) = true := by simp; omega
        have HR2 := hid_of (HRES.out.trans (fin_bad HQ.out hlt))
        clear hlt
        go_enter Try.func48, Try.ntmps48
        go_wp2_with (first
          | (go_at_call 57; (first
            | ((with_reducible refine (SY.out).mono ?_); (rintro ee w1 ⟨rfl, h1, h2⟩; have P1 := hid_of h1; have K1 := hid_of h2; clear h1 h2))
            | ((with_reducible refine (sign_yes b s (a + 1) 125 w1 hs HA1.out P1.out HG2.out (by decide)).mono ?_); (rintro ee w2 ⟨rfl, h1, h2⟩; have P2 : Hid (Pst w2 b s (c + 1)) := hid_of (by rw [HC.out]; exact h1); have K2 := hid_of h2; clear h1 h2))))
          | (go_at_call 59; ((with_reducible refine (skip_any b s (c + 1) w2 hs HC1.out P2.out).mono ?_); (rintro ee w3 ⟨rfl, h1, h2⟩; have P3 : Hid (Pst w3 b s q) := hid_of (by rw [HQ.out]; exact h1); have K3 := hid_of h2; clear h1 h2))))
        have c0 := P3.out.src
        have c1 := P3.out.pos
        go_quiet (fail)
        go_wp2
        go_ret2
        exact spost_bad HR2.out (.inl rfl) ((K1.out.trans (K2.out.trans K3.out)).drewN _) (P3.out.drewN _)
      · have dq : decide (q < s.size) = false := by simp; omega
        have HR2 := hid_of (HRES.out.trans (fin_ok HQ.out hlt))
        clear hlt
        go_enter Try.func48, Try.ntmps48
        go_wp2_with (first
          | (go_at_call 57; (first
            | ((with_reducible refine (SY.out).mono ?_); (rintro ee w1 ⟨rfl, h1, h2⟩; have P1 := hid_of h1; have K1 := hid_of h2; clear h1 h2))
            | ((with_reducible refine (sign_yes b s (a + 1) 125 w1 hs HA1.out P1.out HG2.out (by decide)).mono ?_); (rintro ee w2 ⟨rfl, h1, h2⟩; have P2 : Hid (Pst w2 b s (c + 1)) := hid_of (by rw [HC.out]; exact h1); have K2 := hid_of h2; clear h1 h2))))
          | (go_at_call 59; ((with_reducible refine (skip_any b s (c + 1) w2 hs HC1.out P2.out).mono ?_); (rintro ee w3 ⟨rfl, h1, h2⟩; have P3 : Hid (Pst w3 b s q) := hid_of (by rw [HQ.out]; exact h1); have K3 := hid_of h2; clear h1 h2))))
        have c0 := P3.out.src
        have c1 := P3.out.pos
        go_quiet (fail)
        go_wp2
        go_ret2
        exact spost_ok (acc := []) HR2.out (by simp) ((K1.out.trans (K2.out.trans K3.out)).drewN _) (World.ownsRow_nil _ _ _ _)
    · obtain ⟨W, hW⟩ : ∃ W, W = wordsF s (s.size + 1) c [] := ⟨_, rfl⟩
      have HRES : Hid (RES = W) := hid_of (by rw [← hR, parseF, ← HA.out, if_neg (by simp [h1]), ← HC.out, if_neg h2, hW])
      have HG2 : Hid (gt s (sk s (a + 1)) ≠ 125) := hid_of (by rw [← HC.out]; exact h2)
      have WD : Hid (∀ w2, Pst w2 b s c → Calls Try.prog 58 #[.pointer (some ⟨b, 0, none⟩)] w2 (WPost w2.heap.size b s W w2)) := hid_of (fun w2 hp => words_any b s c w2 W hs HCL.out hp (by rw [HC.out, sk_idem, ← HC.out, hW]))
      clear h1 h2 hR hW
      go_enter Try.func48, Try.ntmps48
      go_wp2_with (first
        | (go_at_call 57; (first
          | ((with_reducible refine (SY.out).mono ?_); (rintro ee w1 ⟨rfl, h1, h2⟩; have P1 := hid_of h1; have K1 := hid_of h2; clear h1 h2))
          | ((with_reducible refine (sign_no b s (a + 1) 125 w1 hs HA1.out P1.out HG2.out).mono ?_); (rintro ee w2 ⟨rfl, h1, h2⟩; have P2 : Hid (Pst w2 b s c) := hid_of (by rw [HC.out]; exact h1); have K2 := hid_of h2; clear h1 h2)))))
      refine (WD.out w2 P2.out).mono ?_
      rintro ee w3 ⟨hk3, ⟨acc, p, xo, xc, hres, hp, hal, rfl, hp3, ho3⟩ | ⟨pl, cc, hres, hcc, rfl, hp3⟩⟩
      · have K3 := hid_of hk3
        have P3 := hid_of hp3
        have O3 := hid_of ho3
        have HPL := hid_of hp
        have HAL := hid_of hal
        obtain ⟨q, hq⟩ : ∃ q, q = sk s p := ⟨_, rfl⟩
        have HQ := hid_of hq
        have HRW := hid_of (HRES.out.trans hres)
        clear hk3 hp3 ho3 hp hal hq hres
        by_cases hlt : q < s.size
        · have dq : decide (q < s.size) = true := by simp; omega
          have HR2 := hid_of (HRW.out.trans (fin_bad HQ.out hlt))
          clear hlt
          go_wp2_with (go_at_call 59; ((with_reducible refine (skip_any b s p w3 hs HPL.out P3.out).mono ?_); (rintro ee w4 ⟨rfl, h1, h2⟩; have P4 : Hid (Pst w4 b s q) := hid_of (by rw [HQ.out]; exact h1); have K4 := hid_of h2; clear h1 h2)))
          have c0 := P4.out.src
          have c1 := P4.out.pos
          go_quiet (fail)
          go_wp2
          go_ret2
          exact spost_bad HR2.out (.inl rfl) ((K1.out.trans (K2.out.trans (K3.out.trans K4.out))).drewN _) (P4.out.drewN _)
        · have dq : decide (q < s.size) = false := by simp; omega
          have HR2 := hid_of (HRW.out.trans (fin_ok HQ.out hlt))
          clear hlt
          go_wp2_with (go_at_call 59; ((with_reducible refine (skip_any b s p w3 hs HPL.out P3.out).mono ?_); (rintro ee w4 ⟨rfl, h1, h2⟩; have P4 : Hid (Pst w4 b s q) := hid_of (by rw [HQ.out]; exact h1); have K4 := hid_of h2; clear h1 h2)))
          have c0 := P4.out.src
          have c1 := P4.out.pos
          go_quiet (fail)
          go_wp2
          go_ret2
          exact spost_ok HR2.out HAL.out ((K1.out.trans (K2.out.trans (K3.out.trans K4.out))).drewN _) (ownsRow_mono (own_kb O3.out (K4.out.drewN _) (by have := P2.out.lt; omega)) (by have := (K1.out.trans K2.out).size; omega))
      · have K3 := hid_of hk3
        have P3 := hid_of hp3
        have HCC := hid_of hcc
        have HR2 := hid_of (HRES.out.trans hres)
        have t1 : (cc != 0) = true := by rcases hcc with rfl | rfl <;> rfl
        clear hk3 hp3 hcc hres
        go_wp2
        go_ret2
        exact spost_bad HR2.out HCC.out (K1.out.trans (K2.out.trans K3.out)) P3.out
  · have HRES : Hid (RES = bad a 2) := hid_of (by rw [← hR, parseF, ← HA.out, if_pos h1])
    have SN := hid_of (sign_no b s 0 123 w hs (Nat.zero_le _) HP.out (by rw [← HA.out]; exact h1))
    rw [← HA.out] at SN
    clear h1 hR ha2
    go_enter Try.func48, Try.ntmps48
    go_wp2_with (go_at_call 57; ((with_reducible refine (SN.out).mono ?_); (rintro ee w1 ⟨rfl, h1, h2⟩; have P1 := hid_of h1; have K1 := hid_of h2; clear h1 h2)))
    go_ret2
    exact spost_bad HRES.out (.inl rfl) K1.out P1.out

def PPost (G : Got) (w : World) (e : Ending) (w' : World) : Prop := ∃ (xo : Option Addr) (xc : Nat), e = .returned (.tuple #[.slice xo G.list.length xc, .int .i64 G.place, .int .i64 G.code]) ∧ Ow 9 w.heap.size w w' (.slice xo G.list.length xc) (ss G.list)
set_option maxRecDepth 100000 in
set_option maxHeartbeats 1600000 in
theorem parse_any (s : ByteArray) (w : World) (hs : s.size ≤ 1000000) : Calls Try.prog 34 #[.string s] w (PPost (parseF s) w) := by
  obtain ⟨RES, hR⟩ : ∃ R, R = parseF s := ⟨_, rfl⟩
  rw [← hR]
  obtain ⟨o, ho⟩ : ∃ o, o = Obj.cells #[.string s, .int .i64 0] 55 := ⟨_, rfl⟩
  have ST : Hid (Calls Try.prog 48 #[.pointer (some ⟨w.heap.size, 0, none⟩)] (w.alloc (.cells #[.string s, .int .i64 0] 55)) (SPost w.heap.size s RES (w.alloc (.cells #[.string s, .int .i64 0] 55)))) :=
    hid_of (set_any w.heap.size s _ RES hs (heap_alloc_new w _) hR.symm)
  clear hR ho o
  go_enter Try.func34, Try.ntmps34
  go_wp2_with fail
  refine (ST.out).mono ?_
  rintro ee w1 ⟨hk1, ⟨acc, xo, xc, hres, hal, rfl, ho⟩ | ⟨pl, c, hres, hcc, rfl, hp⟩⟩
  · have HB1 : Hid (Below w.heap.size w w1) := hid_of ((bel_alloc w _).trans (hk1.below (by simp) (fun k hk => by omega)))
    have HRES := hid_of hres
    have OF : Hid (Calls Try.prog 17 #[.slice xo acc.length xc] w1 fun e w' => ∃ xo xc, e = .returned (.slice xo (setOf acc).length xc) ∧ Ow 9 w1.heap.size w1 w' (.slice xo (setOf acc).length xc) (ss (setOf acc))) := hid_of (by
      refine of_any xo acc.length xc acc w1 ?_ (by unfold big; exact hal)
      refine (ow_of ho rfl ?_).rd (by rw [ss_length]; omega)
      have := hk1.size; simp at this ⊢; omega)
    clear hk1 ho hres hal
    go_wp2_with (go_at_call 17; ((with_reducible refine (OF.out).mono ?_); (rintro ee w2 ⟨xo2, xc2, rfl, h2⟩; have O2 := hid_of h2; clear h2)))
    go_ret3
    exact ⟨xo2, xc2, by rw [HRES.out] <;> rfl, by rw [HRES.out]; exact O2.out.start (Nat.le_refl _) HB1.out HB1.out.size⟩
  · have HB1 : Hid (Below w.heap.size w w1) := hid_of ((bel_alloc w _).trans (hk1.below (by simp) (fun k hk => by omega)))
    have P1 := hid_of hp
    have c1 := hp.pos
    have t1 : (c != 0) = true := by rcases hcc with rfl | rfl <;> rfl
    have HRES := hid_of hres
    clear hk1 hcc hres hp
    go_wp2
    go_quiet (fail)
    go_wp2
    go_ret3
    exact ⟨none, 0, by rw [HRES.out] <;> rfl, by rw [HRES.out]; exact ow_keep (bel_drewN HB1.out _)⟩
end Go.Proofs.Ytpbjnbceloibnaa
