/- writeNames. Bounds on sizes alone. -/
import Derived.Test.YtoogcafceghdjaaLatWk
namespace Go.Proofs.Ytoogcafceghdjaa
open Go.RowKit
set_option maxRecDepth 100000

theorem take_snocL {α : Type} {l : List α} {i : Nat} {x : α} (h : l[i]? = some x) : l.take (i + 1) = l.take i ++ [x] := by rw [List.take_add_one, h]; rfl
theorem flat_take {α : Type} (f : α → List Int) (l : List α) (j : Nat) : (l.flatMap f).length = ((l.take j).flatMap f).length + ((l.drop j).flatMap f).length := by
  rw [← List.length_append, ← List.flatMap_append, List.take_append_drop]
theorem wn_any (b : Nat) (an : Option Addr) (nn cn : Nat) (ns : List Str) (w0 w : World) (v : Value) (l : List Int) (R : Rd w0 (.slice an nn cn) (ss ns)) (hsm : ∀ x ∈ ns, x.length ≤ 16) (hn : ns.length ≤ 1000) (hb0 : Below w0.heap.size w0 w) (hb : w0.heap.size ≤ b) (h : Wr.Wst w0.heap.size b w v l) (hl : l.length + (nsE ns).length ≤ 60000000000000) :
    Calls Try.prog 47 #[.pointer (some ⟨b, 0, none⟩), .slice an nn cn] w fun e w' => e = .returned (.tuple #[]) ∧ WK w0.heap.size b w v w' (l ++ nsE ns) := by
  obtain ⟨hnl, h1, h2, h3⟩ := rds_open R
  have HK0 := hid_of (WK.start h hb hb0.size)
  have HC : Hid (∀ j wr, j < nn → Below w0.heap.size w0 wr → ∃ g o x, an = some ⟨g, o, none⟩ ∧ ns[j]? = some x ∧ wr.cell? ⟨g, o + j, none⟩ = some (.string (ba x))) := hid_of (fun j wr hj hb => by
    obtain ⟨x, hx⟩ : ∃ x, ns[j]? = some x := ⟨_, List.getElem?_eq_getElem (by omega)⟩
    obtain ⟨g, o, e, hg, hc⟩ := h3.resolve_left (fun e => by rw [e] at hx; simp at hx)
    exact ⟨g, o, x, e, hx, (hb.cell (p := ⟨g, o + j, none⟩) hg).trans (hc j x hx)⟩)
  have C0 := hid_of (uint_wk nn HK0.out (by omega) (by omega))
  have HSM := hid_of hsm
  have HNL := hid_of hnl
  have HL := hid_of hl
  have HB0 := hid_of hb0
  have HE : Hid (nsE ns = Wr.enc nn ++ ns.flatMap txE) := hid_of (by rw [hnl]; rfl)
  have hn6 : nn ≤ 1000 := by omega
  clear R hsm hn hb0 hb h hl h3 hnl
  go_enter Try.func47, Try.ntmps47
  go_wp2_with (go_at_call 45; ((with_reducible refine (C0.out).mono ?_); (rintro e w1 ⟨rfl, q1⟩)); have K1 := hid_of q1; clear q1)
  go_loopw [5, 13] (fun sv iv wr => ∃ (j : Nat) (x5 : Value), sv = x5 ∧ j ≤ nn ∧ iv = .int .i64 j ∧ Hid (WK w0.heap.size b w v wr (l ++ Wr.enc nn ++ (ns.take j).flatMap txE))) (fun _ iv _ => nn - (intOf iv).toNat)
  case atStart => exact ⟨0, _, rfl, Nat.zero_le _, rfl, hid_of (by rw [List.take_zero]; simpa using K1.out)⟩
  case round =>
    obtain ⟨j, x5, rfl, hj, rfl, hk⟩ := hrel
    by_cases hlt : j < nn
    · have hd : decide (j < nn) = true := by simp; omega
      obtain ⟨g, o, x, rfl, hx, c0⟩ := HC.out j wr hlt (HB0.out.trans (hk.out.bel.mono (Nat.le_refl _)))
      have CT := hid_of (text_wk x _ rfl hk.out (HSM.out x (List.mem_of_getElem? hx)) (by
        have h1 := HL.out
        have h2 := flat_take txE ns j
        rw [HE.out] at h1
        simp only [List.length_append] at h1 h2 ⊢
        omega))
      have HNX : Hid (l ++ Wr.enc nn ++ (ns.take j).flatMap txE ++ txE x = l ++ Wr.enc nn ++ (ns.take (j + 1)).flatMap txE) := hid_of (by rw [take_snocL hx, List.flatMap_append, List.flatMap_singleton, ← List.append_assoc])
      obtain ⟨bx, hbx⟩ : ∃ bx, bx = ba x := ⟨_, rfl⟩
      rw [← hbx] at c0 CT
      clear hx hbx
      go_wp2_with (go_at_call 48; ((with_reducible refine (CT.out).mono ?_); (rintro e w2 ⟨rfl, q1⟩)); have K2 := hid_of q1; clear q1)
      go_roundw
      case rel => exact ⟨j + 1, _, rfl, by omega, by go_num, hid_of (by rw [← HNX.out]; exact K2.out)⟩
      case measure => simp [intOf]; omega
    · have hd : decide (j < nn) = false := by simp; omega
      have HF : Hid (WK w0.heap.size b w v wr (l ++ nsE ns)) := hid_of (by
        have h1 := hk.out
        rw [List.take_of_length_le (by have := HNL.out; omega), List.append_assoc, ← HE.out] at h1
        exact h1)
      go_wp2
      go_end0
      exact ⟨rfl, HF.out⟩
/-- writeNames, behind. -/
theorem wn_wk {b : Nat} {an : Option Addr} {nn cn : Nat} {ns : List Str} {w0 wa w : World} {va : Value} {l : List Int} (h : WK w0.heap.size b wa va w l) (hb0 : Below w0.heap.size w0 wa) (R : Rd w0 (.slice an nn cn) (ss ns)) (hsm : ∀ x ∈ ns, x.length ≤ 16) (hn : ns.length ≤ 1000) (hl : l.length + (nsE ns).length ≤ 60000000000000) :
    Calls Try.prog 47 #[.pointer (some ⟨b, 0, none⟩), .slice an nn cn] w fun e w' => e = .returned (.tuple #[]) ∧ WK w0.heap.size b wa va w' (l ++ nsE ns) :=
  h.call fun v hv => wn_any b an nn cn ns w0 w v l R hsm hn (hb0.trans h.bel) h.hb hv hl
end Go.Proofs.Ytoogcafceghdjaa
