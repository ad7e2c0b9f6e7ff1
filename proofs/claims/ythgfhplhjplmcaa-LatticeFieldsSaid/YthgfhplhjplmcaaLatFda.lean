/- Field of package lattice. Bounds on sizes alone. -/
import Derived.Test.YthgfhplhjplmcaaLatLd
import Derived.Test.YthgfhplhjplmcaaLatFie
namespace Go.Proofs.Ythgfhplhjplmcaa
open Go.RowKit

theorem at_exists (l : List Str) (s : Str) : ∃ r, At l s r := by
  by_cases h : s ∈ l
  · have : ∀ (l : List Str), s ∈ l → ∃ n : Nat, l[n]? = some s ∧ ∀ j, j < n → l[j]? ≠ some s := by
      intro l
      induction l with
      | nil => intro h; cases h
      | cons y l ih =>
        intro h
        by_cases e : y = s
        · exact ⟨0, by rw [e]; rfl, fun j hj => by omega⟩
        · obtain ⟨n, h1, h2⟩ := ih (by rcases List.mem_cons.1 h with h | h; exact absurd h.symm e; exact h)
          refine ⟨n + 1, h1, fun j hj => ?_⟩
          cases j with
          | zero => intro h3; exact e (by simpa using h3)
          | succ j => exact h2 j (by omega)
    obtain ⟨n, h1, h2⟩ := this l h
    exact ⟨n, .inl ⟨n, rfl, h1, h2⟩⟩
  · exact ⟨-1, .inr ⟨rfl, h⟩⟩
set_option maxRecDepth 100000 in
set_option maxHeartbeats 3200000 in
theorem field_no (k lo hi : Int) (an : Option Addr) (nn cn : Nat) (ap : Option Addr) (np cp : Nat) (ar : Option Addr) (nr cr : Nat) (ns : List Str) (s : Str) (r : Int) (w : World) (R : Rd w (.slice an nn cn) (ss ns)) (hat : At ns s r) (hno : k ≠ 6 ∨ r = -1) :
    Calls Try.prog 24 #[.agg #[.int .i64 k, .int .i64 lo, .int .i64 hi, .slice an nn cn, .slice ap np cp, .slice ar nr cr], .string (ba s)] w fun e w' => e = .returned (.tuple #[.agg #[.int .i64 0, .int .i64 0, .int .i64 0, .slice none 0 0, .slice none 0 0, .slice none 0 0], .bool false]) ∧ Below w.heap.size w w' := by
  obtain ⟨bs, hbs⟩ : ∃ bs, bs = ba s := ⟨_, rfl⟩
  have HBW : Hid (Below w.heap.size w ((w.alloc (.cells #[.int .i64 k, .int .i64 lo, .int .i64 hi, .slice an nn cn, .slice ap np cp, .slice ar nr cr] 26)).alloc (.cells #[.int .i64 0, .int .i64 0, .int .i64 0, .slice none 0 0, .slice none 0 0, .slice none 0 0] 26))) := hid_of ((bel_alloc w _).trans ((bel_alloc _ _).mono (by simp)))
  have Q2 := hid_of (two_new w (.cells #[.int .i64 k, .int .i64 lo, .int .i64 hi, .slice an nn cn, .slice ap np cp, .slice ar nr cr] 26) (.cells #[.int .i64 0, .int .i64 0, .int .i64 0, .slice none 0 0, .slice none 0 0, .slice none 0 0] 26)).2
  have IX := hid_of (index_any ns s r an nn cn ((w.alloc (.cells #[.int .i64 k, .int .i64 lo, .int .i64 hi, .slice an nn cn, .slice ap np cp, .slice ar nr cr] 26)).alloc (.cells #[.int .i64 0, .int .i64 0, .int .i64 0, .slice none 0 0, .slice none 0 0, .slice none 0 0] 26)) (R.at HBW.out) hat)
  rw [← hbs] at IX ⊢
  clear R hat hbs
  by_cases hk : k = 6
  · obtain rfl : r = -1 := hno.resolve_left (fun h => h hk)
    subst hk
    clear hno
    go_enter Try.func24, Try.ntmps24
    go_wp2_with (first
      | (go_at_call 40; ((with_reducible refine (IX.out).mono ?_); (rintro e w2 ⟨rfl, rfl⟩)))
      | (refine wpList_store_row rfl 26 (.tmp 4) (.tmp 25) rfl (w.heap.size + 1) #[.int .i64 0, .int .i64 0, .int .i64 0, .slice none 0 0, .slice none 0 0, .slice none 0 0] rfl rfl 26 _ Q2.out infoLat rfl rfl ?_))
    refine bodyPost_ret (res_ct (cs := #[.int .i64 0, .int .i64 0, .int .i64 0, .slice none 0 0, .slice none 0 0, .slice none 0 0]) rfl (w.heap.size + 1) rfl Q2.out Try.underlying26 rfl infoLat) rfl ⟨rfl, ?_⟩
    exact HBW.out
  · have e1 : (k != 6) = true := bne_iff_ne.2 hk
    clear hno hk
    go_enter Try.func24, Try.ntmps24
    go_wp2_with (first
      | (go_at_call 40; ((with_reducible refine (IX.out).mono ?_); (rintro e w2 ⟨rfl, rfl⟩)))
      | (refine wpList_store_row rfl 26 (.tmp 4) (.tmp 25) rfl (w.heap.size + 1) #[.int .i64 0, .int .i64 0, .int .i64 0, .slice none 0 0, .slice none 0 0, .slice none 0 0] rfl rfl 26 _ Q2.out infoLat rfl rfl ?_))
    refine bodyPost_ret (res_ct (cs := #[.int .i64 0, .int .i64 0, .int .i64 0, .slice none 0 0, .slice none 0 0, .slice none 0 0]) rfl (w.heap.size + 1) rfl Q2.out Try.underlying26 rfl infoLat) rfl ⟨rfl, ?_⟩
    exact HBW.out
/-- Field where there is the field: a description of its own that is the part. -/
def FldP (u : Lat) (w : World) (e : Ending) (w' : World) : Prop := ∃ (k lo hi : Int) (an : Option Addr) (nn cn : Nat) (ap : Option Addr) (np cp : Nat) (ar : Option Addr) (nr cr : Nat), e = .returned (.tuple #[.agg #[.int .i64 k, .int .i64 lo, .int .i64 hi, .slice an nn cn, .slice ap np cp, .slice ar nr cr], .bool true]) ∧ LO w' k lo hi an nn cn ap np cp ar nr cr u ∧ Below w.heap.size w w'
theorem field_at (t u : Lat) (k lo hi : Int) (an : Option Addr) (nn cn : Nat) (ap : Option Addr) (np cp : Nat) (ar : Option Addr) (nr cr : Nat) (s : Str) (i : Nat) (w : World) (H : LO w k lo hi an nn cn ap np cp ar nr cr t) (hk : k = 6) (hu : t.ps[i]? = some u) (hok : Okay u) (hat : At t.ns s i) :
    Calls Try.prog 24 #[.agg #[.int .i64 k, .int .i64 lo, .int .i64 hi, .slice an nn cn, .slice ap np cp, .slice ar nr cr], .string (ba s)] w (FldP u w) := by
  subst hk
  have hl := H.p.len
  have hin : i < np := by have := (List.getElem?_eq_some_iff.1 hu).1; omega
  obtain ⟨g, o, kA, loA, hiA, anA, nnA, cnA, apA, npA, cpA, arA, nrA, crA, rfl, LU, hc⟩ := H.p.get hu
  refine (field_yes lo hi an nn cn g o np cp ar nr cr kA loA hiA anA nnA cnA apA npA cpA arA nrA crA t.ns s i w H.n hat hin (by omega) hc
    (fun cells w' => ∃ (xo : Option Addr) (xc : Nat) (yo : Option Addr) (yc : Nat) (zo : Option Addr) (zc : Nat), cells = #[.int .i64 kA, .int .i64 loA, .int .i64 hiA, .slice xo nnA xc, .slice yo npA yc, .slice zo nrA zc] ∧ LB (w.heap.size + 2) w' ⟨kA, loA, hiA, .slice xo nnA xc, .slice yo npA yc, .slice zo nrA zc⟩ u)
    (fun wz hz hsz => (clone_any u kA loA hiA anA nnA cnA apA npA cpA arA nrA crA wz (LU.at hz) hok).mono fun e w' h => ?_)).mono fun e w' h => ?_
  · obtain ⟨xo, xc, yo, yc, zo, zc, rfl, hlb, hb⟩ := h
    exact ⟨_, rfl, rfl, by rw [List.all_toArray]; rfl, hb, xo, xc, yo, yc, zo, zc, rfl, hlb.mono hsz⟩
  · obtain ⟨cells, w3, rfl, ⟨xo, xc, yo, yc, zo, zc, rfl, hlb⟩, rfl, hb⟩ := h
    have hlb2 := hlb.keep (w' := w3.setRow (w.heap.size + 1) #[.int .i64 kA, .int .i64 loA, .int .i64 hiA, .slice xo nnA xc, .slice yo npA yc, .slice zo nrA zc]) (by simp [World.setRow]) (fun b hb2 _ => setRow_other _ _ _ _ (by omega))
    obtain ⟨k', lo', hi', a1, n1, c1, a2, n2, c2, a3, n3, c3, e, ho⟩ := hlb2.ld.open
    cases e
    exact ⟨kA, loA, hiA, xo, nnA, xc, yo, npA, yc, zo, nrA, zc, rfl, ho, hb⟩
end Go.Proofs.Ythgfhplhjplmcaa
