/- Decode of package clock. Bounds on sizes. -/
import Derived.Test.YtofgmimdmgaljaaClkEnc
namespace Go.Proofs.Ytofgmimdmgaljaa
open Go.RowKit

/-- The rounds of Decode that are left. -/
def dloop (d : List Int) : Nat → Option Nat → List Tk → Option (List Tk)
  | 0, s, c => if Wr.eR d s = 0 ∧ okV c = true then some c else none
  | k + 1, s, c => if 63 < (Wr.uR d s).1 ∨ 1000000000000000 < (Wr.uR d (Wr.uR d s).2).1 then none else dloop d k (Wr.uR d (Wr.uR d s).2).2 (c ++ [(((Wr.uR d s).1 : Int), ((Wr.uR d (Wr.uR d s).2).1 : Int))])
def dcd (d : List Int) : Option (List Tk) := if 64 < (Wr.cR d 0).1 then none else dloop d (Wr.cR d 0).1 (Wr.cR d 0).2 []

theorem rs_at {w w' : World} {b g : Nat} {d : List Int} {s : Option Nat} {B : Nat} (h : Wr.RS w b g d s) (hb : Below B w w') (h1 : b < B) (h2 : g < B) : Wr.RS w' b g d s := by
  cases s with
  | none => obtain ⟨off, last, h⟩ := h; exact ⟨off, last, h.same (hb.block b h1) (hb.block g h2)⟩
  | some off => obtain ⟨last, h⟩ := h; exact ⟨last, h.same (hb.block b h1) (hb.block g h2)⟩
/-- What is kept by the rounds. -/
structure DSt (B b g : Nat) (d : List Int) (w wr : World) (s : Option Nat) (lv : Value) (lst : List Tk) : Prop where
  rs : Wr.RS wr b g d s
  bel : Below w.heap.size w wr
  size : B ≤ wr.heap.size
  own : wr.ownsRow B 41 2 lv lst.length (ts lst)
theorem DSt.ot {B b g : Nat} {d : List Int} {w wr : World} {s : Option Nat} {lv : Value} {lst : List Tk} (h : DSt B b g d w wr s lv lst) : OT B wr wr lv lst := ⟨h.size, Below.refl _ _, h.own⟩
/-- Behind a read. -/
theorem DSt.read {B b g : Nat} {d : List Int} {w wr w' : World} {s s' : Option Nat} {lv : Value} {lst : List Tk} (h : DSt B b g d w wr s lv lst) (hb : b < B) (hw : w.heap.size ≤ b) (hrs : Wr.RS w' b g d s') (hk : Wr.Kept (fun k => k = b) wr w') : DSt B b g d w w' s' lv lst :=
  ⟨hrs, h.bel.trans (hk.below h.bel.size (fun k e => by omega)), Nat.le_trans h.size hk.size, own_same h.own fun k e => hk.block k (h.own.lt k e).2 (by have := (h.own.lt k e).1; omega)⟩
/-- Behind an append. -/
theorem DSt.app {B b g : Nat} {d : List Int} {w wr w' : World} {s : Option Nat} {lv lv' : Value} {lst lst' : List Tk} (h : DSt B b g d w wr s lv lst) (hb : b < B) (hg : g < B) (hw : w.heap.size ≤ B) (h2 : OT B wr w' lv' lst') : DSt B b g d w w' s lv' lst' :=
  ⟨rs_at h.rs h2.bel hb hg, h.bel.trans (h2.bel.mono hw), h2.size, h2.own⟩

/-- How Decode ends. -/
def DRes (w : World) (R : Option (List Tk)) (e : Ending) (w' : World) : Prop :=
  ∃ x k c, e = .returned (.tuple #[.slice x k c, .int .i64 (if R.isSome then 0 else 2)]) ∧ TRd w' (.slice x k c) (R.getD []) ∧ Below w.heap.size w w'
theorem dres_none {w w' : World} {R : Option (List Tk)} (h : R = none) (hb : Below w.heap.size w w') : DRes w R (.returned (.tuple #[.slice none 0 0, .int .i64 2])) w' := by
  subst h; exact ⟨_, _, _, rfl, trd_nil _, hb⟩

set_option maxRecDepth 100000 in
set_option maxHeartbeats 1600000 in
theorem decode_any (ao : Option Addr) (n cap : Nat) (d : List Int) (w : World) (hb : BR w (.slice ao n cap) d) (hr : ∀ x ∈ d, 0 ≤ x ∧ x ≤ 255) (hl : d.length ≤ 1000000000) :
    Calls Try.prog 30 #[.slice ao n cap] w fun e w' => DRes w (dcd d) e w' := by
  obtain ⟨R, hR⟩ : ∃ R, R = dcd d := ⟨_, rfl⟩
  rw [← hR]
  have HNR := hid_of (hb.reader hr (by omega))
  have HR := hid_of hR
  clear hb hr hl hR
  obtain ⟨cnt, hcnt⟩ : ∃ c, c = (Wr.cR d 0).1 := ⟨_, rfl⟩
  have HC := hid_of hcnt
  have CNT : Hid (∀ (w' : World) (b g : Nat), Wr.Rst w' b g d 0 0 0 → Calls Try.prog 43 #[.pointer (some ⟨b, 0, none⟩)] w' fun e w'' => e = .returned (.int .i64 cnt) ∧ Wr.RS w'' b g d (Wr.cR d 0).2 ∧ Wr.Kept (fun k => k = b) w' w'' ∧ w''.heap.size = w'.heap.size) := hid_of (fun w' b g h => by rw [hcnt]; exact Wr.cR_any b g 0 0 d w' h)
  clear hcnt
  by_cases h64 : 64 < cnt
  · have HE : Hid (R = none) := hid_of (by rw [HR.out]; unfold dcd; rw [← HC.out, if_pos h64])
    have d64 : decide ((cnt : Int) > 64) = true := by simp; omega
    go_enter Try.func30, Try.ntmps30
    go_wp2_with (first
      | (go_at_call 42; ((with_reducible refine HNR.out.mono ?_); (rintro e w1 ⟨b, g, rfl, h1, h2, h3, h4⟩; have H1 := hid_of h1; have HB1 := hid_of h2; have H3 := hid_of h3; clear h1 h2 h3 h4)))
      | (go_at_call 43; ((with_reducible refine (CNT.out w1 b g H1.out).mono ?_); (rintro e w2 ⟨rfl, h1, h2, h3⟩; have HB2 := hid_of (HB1.out.trans (h2.below HB1.out.size (fun k e => by have := H3.out; omega))); clear h1 h2 h3))))
    go_ret2
    exact dres_none HE.out HB2.out
  · have HE : Hid (R = dloop d cnt (Wr.cR d 0).2 []) := hid_of (by rw [HR.out]; unfold dcd; rw [← HC.out, if_neg h64])
    have d64 : decide ((cnt : Int) > 64) = false := by simp; omega
    go_enter Try.func30, Try.ntmps30
    go_wp2_with (first
      | (go_at_call 42; ((with_reducible refine HNR.out.mono ?_); (rintro e w1 ⟨b, g, rfl, h1, h2, h3, h4⟩; have H1 := hid_of h1; have HB1 := hid_of h2; have H3 := hid_of h3; clear h1 h2 h3 h4)))
      | (go_at_call 43; ((with_reducible refine (CNT.out w1 b g H1.out).mono ?_); (rintro e w2 ⟨rfl, h1, h2, h3⟩; have HD := hid_of (show DSt w1.heap.size b g d w w2 (Wr.cR d 0).2 (.slice none 0 0) [] from ⟨h1, HB1.out.trans (h2.below HB1.out.size (fun k e => by have := H3.out; omega)), by omega, World.ownsRow_nil _ _ _ _⟩); clear h1 h2 h3))))
    have hbB : Hid (b < w1.heap.size ∧ g < w1.heap.size) := hid_of ⟨H1.out.blt, H1.out.glt⟩
    go_loopw [6, 16] (fun lv iv wr => ∃ (k : Nat) (x : Option Addr) (m c : Nat) (s : Option Nat) (lst : List Tk), k ≤ cnt ∧ iv = .int .i64 k ∧ lv = .slice x m c ∧ Hid (R = dloop d (cnt - k) s lst ∧ lst.length = k) ∧ Hid (DSt w1.heap.size b g d w wr s (.slice x m c) lst)) (fun _ iv _ => cnt - (intOf iv).toNat)
    case atStart => exact ⟨0, none, 0, 0, _, [], Nat.zero_le _, rfl, rfl, hid_of ⟨HE.out, rfl⟩, HD⟩
    case round =>
      obtain ⟨k, x, m, c, s, lst, hk, rfl, rfl, hp, hs⟩ := hrel
      by_cases hlt : k < cnt
      · have b1 : (k : Int) < (cnt : Int) := by omega
        have hstep : Hid (R = dloop d ((cnt - (k + 1)) + 1) s lst) := hid_of (by rw [show cnt - (k + 1) + 1 = cnt - k by omega]; exact hp.out.1)
        have HLEN := hid_of hp.out.2
        have HS := hid_of hs.out
        clear hp hs
        obtain ⟨p, hpp⟩ : ∃ p, p = (Wr.uR d s).1 := ⟨_, rfl⟩
        obtain ⟨s1, hs1⟩ : ∃ p, p = (Wr.uR d s).2 := ⟨_, rfl⟩
        obtain ⟨q, hqq⟩ : ∃ p, p = (Wr.uR d s1).1 := ⟨_, rfl⟩
        obtain ⟨s2, hs2⟩ : ∃ p, p = (Wr.uR d s1).2 := ⟨_, rfl⟩
        have HST : Hid (R = if 63 < p ∨ 1000000000000000 < q then none else dloop d (cnt - (k + 1)) s2 (lst ++ [((p : Int), (q : Int))])) := hid_of (by
          have := hstep.out
          unfold dloop at this
          rw [← hpp, ← hs1, ← hqq, ← hs2] at this
          exact this)
        have RD1 : Hid (∀ w', Wr.RS w' b g d s → Calls Try.prog 44 #[.pointer (some ⟨b, 0, none⟩)] w' fun e w'' => e = .returned (.int .u64 p) ∧ Wr.RS w'' b g d s1 ∧ Wr.Kept (fun k => k = b) w' w'' ∧ w''.heap.size = w'.heap.size ∧ p < 18446744073709551616) := hid_of (fun w' h => by rw [hpp, hs1]; exact Wr.uR_any b g d s w' h)
        have RD2 : Hid (∀ w', Wr.RS w' b g d s1 → Calls Try.prog 44 #[.pointer (some ⟨b, 0, none⟩)] w' fun e w'' => e = .returned (.int .u64 q) ∧ Wr.RS w'' b g d s2 ∧ Wr.Kept (fun k => k = b) w' w'' ∧ w''.heap.size = w'.heap.size ∧ q < 18446744073709551616) := hid_of (fun w' h => by rw [hqq, hs2]; exact Wr.uR_any b g d s1 w' h)
        clear hpp hs1 hqq hs2 hstep
        by_cases hbad : 63 < p ∨ 1000000000000000 < q
        · have HE2 : Hid (R = none) := hid_of (by rw [HST.out, if_pos hbad])
          by_cases h1 : 63 < p
          · have dp : decide ((p : Int) > 63) = true := by simp; omega
            clear hbad h1
            go_wp2_with (go_at_call 44; (first
              | ((with_reducible refine (RD1.out wr HS.out.rs).mono ?_); (rintro e w3 ⟨rfl, r1, r2, r3, r4⟩; have HS3 := hid_of (HS.out.read hbB.out.1 H3.out r1 r2); clear r1 r2 r3 r4))
              | ((with_reducible refine (RD2.out w3 HS3.out.rs).mono ?_); (rintro e w4 ⟨rfl, r1, r2, r3, r4⟩; have HS4 := hid_of (HS3.out.read hbB.out.1 H3.out r1 r2); clear r1 r2 r3 r4))))
            go_ret2
            exact dres_none HE2.out HS4.out.bel
          · have dp : decide ((p : Int) > 63) = false := by simp; omega
            have dq : decide ((q : Int) > 1000000000000000) = true := by simp; omega
            clear hbad h1
            go_wp2_with (go_at_call 44; (first
              | ((with_reducible refine (RD1.out wr HS.out.rs).mono ?_); (rintro e w3 ⟨rfl, r1, r2, r3, r4⟩; have HS3 := hid_of (HS.out.read hbB.out.1 H3.out r1 r2); clear r1 r2 r3 r4))
              | ((with_reducible refine (RD2.out w3 HS3.out.rs).mono ?_); (rintro e w4 ⟨rfl, r1, r2, r3, r4⟩; have HS4 := hid_of (HS3.out.read hbB.out.1 H3.out r1 r2); clear r1 r2 r3 r4))))
            go_ret2
            exact dres_none HE2.out HS4.out.bel
        · have HE2 : Hid (R = dloop d (cnt - (k + 1)) s2 (lst ++ [((p : Int), (q : Int))])) := hid_of (by rw [HST.out, if_neg hbad])
          have dp : decide ((p : Int) > 63) = false := by simp; omega
          have dq : decide ((q : Int) > 1000000000000000) = false := by simp; omega
          have ap : IntKind.i64.wrap (p : Int) = (p : Int) := IntWalk.i64_in _ (by omega)
          have aq : IntKind.i64.wrap (q : Int) = (q : Int) := IntWalk.i64_in _ (by omega)
          clear hbad
          go_wp2_with (first
            | (go_at_call 44; (first
              | ((with_reducible refine (RD1.out wr HS.out.rs).mono ?_); (rintro e w3 ⟨rfl, r1, r2, r3, r4⟩; have HS3 := hid_of (HS.out.read hbB.out.1 H3.out r1 r2); clear r1 r2 r3 r4))
              | ((with_reducible refine (RD2.out w3 HS3.out.rs).mono ?_); (rintro e w4 ⟨rfl, r1, r2, r3, r4⟩; have HS4 := hid_of (HS3.out.read hbB.out.1 H3.out r1 r2); clear r1 r2 r3 r4))))
            | (at_builtin; (refine wpList_tick rfl _ _ rfl (v := .slice x m c) rfl HS4.out.ot ((p : Int), (q : Int)) rfl (by have := HLEN.out; omega) ?_); intro xo xn xc w5 hxn h5; have HS5 := hid_of (HS4.out.app hbB.out.1 hbB.out.2 HB1.out.size h5); clear h5 hxn))
          go_roundw
          case rel => exact ⟨k + 1, _, _, _, s2, _, by omega, by go_num, rfl, hid_of ⟨HE2.out, by rw [List.length_append, HLEN.out]; rfl⟩, HS5⟩
          case measure => simp [intOf]; omega
      · obtain rfl : k = cnt := by omega
        have HS := hid_of hs.out
        have HLAST : Hid (R = if Wr.eR d s = 0 ∧ okV lst = true then some lst else none) := hid_of (by
          have := hp.out.1
          rw [Nat.sub_self] at this
          exact this)
        have EN := hid_of (Wr.eR_any b g d s wr hs.out.rs)
        have he2 : Wr.eR d s = 0 ∨ Wr.eR d s = 2 := by
          cases s with
          | none => right; rfl
          | some off => unfold Wr.eR; by_cases h : off = d.length <;> simp [h]
        obtain ⟨er, her⟩ : ∃ er, er = Wr.eR d s := ⟨_, rfl⟩
        rw [← her] at EN he2 HLAST
        clear hp hs her
        have TR := hid_of HS.out.ot.rd
        obtain ⟨v, hv⟩ : ∃ v, v = okV lst := ⟨_, rfl⟩
        have VL := hid_of (fun j => valid_b x m c lst (wr.drewN j) v hv (TR.out.drewN j))
        rw [← hv] at HLAST
        clear hv
        rcases he2 with rfl | rfl
        · cases v
          · have HE2 : Hid (R = none) := hid_of (by rw [HLAST.out]; rfl)
            go_wp2_with (first
              | (go_at_call 45; ((with_reducible refine EN.out.mono ?_); (rintro e w3 ⟨rfl, j, rfl⟩)))
              | (go_at_call 16; ((with_reducible refine (VL.out j).mono ?_); (rintro e w4 ⟨rfl, h4⟩; have HB4 := hid_of (bel_step (bel_drewN HS.out.bel j) h4 (Nat.le_refl _)); clear h4))))
            go_ret2
            exact dres_none HE2.out HB4.out
          · have HE2 : Hid (R = some lst) := hid_of (by rw [HLAST.out]; rfl)
            go_wp2_with (first
              | (go_at_call 45; ((with_reducible refine EN.out.mono ?_); (rintro e w3 ⟨rfl, j, rfl⟩)))
              | (go_at_call 16; ((with_reducible refine (VL.out j).mono ?_); (rintro e w4 ⟨rfl, h4⟩; have HT4 := hid_of ((TR.out.drewN j).at h4); have HB4 := hid_of (bel_step (bel_drewN HS.out.bel j) h4 (Nat.le_refl _)); clear h4))))
            go_ret2
            exact ⟨_, _, _, by rw [HE2.out]; rfl, by rw [HE2.out]; exact HT4.out, HB4.out⟩
        · have HE2 : Hid (R = none) := hid_of (by rw [HLAST.out]; rfl)
          go_wp2_with (go_at_call 45; ((with_reducible refine EN.out.mono ?_); (rintro e w3 ⟨rfl, j, rfl⟩)))
          go_ret2
          exact dres_none HE2.out (bel_drewN HS.out.bel j)
end Go.Proofs.Ytofgmimdmgaljaa
