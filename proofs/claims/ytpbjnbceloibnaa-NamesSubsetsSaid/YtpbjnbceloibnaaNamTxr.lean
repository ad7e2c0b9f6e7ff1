/- Text of package names where an element is no name; the reference's Text. Bounds on sizes alone. -/
import Derived.Test.YtpbjnbceloibnaaNamTxt
namespace Go.Proofs.Ytpbjnbceloibnaa
open Go.RowKit

def allOk (l : List Str) : Bool := l.all nameOk
theorem allOk_iff {l : List Str} : allOk l = true ↔ ∀ x ∈ l, nameOk x = true := by simp [allOk]
theorem allOk_set (l : List Str) : allOk (setOf l) = allOk l := by
  rw [Bool.eq_iff_iff, allOk_iff, allOk_iff]
  exact ⟨fun h x hx => h x ((setOf_mem l x).2 hx), fun h x hx => h x ((setOf_mem l x).1 hx)⟩
theorem vld_any (x : Str) (hx : x.length ≤ 1000) (bb : ByteArray) (hb : bb = ba x) (w : World) : Calls Try.prog 13 #[.string bb] w fun e w' => e = .returned (.bool (nameOk x)) ∧ w = w' := by
  subst hb
  exact (valid_any (ba x) w (by show x.toArray.size ≤ _; unfold maxLen; simp; omega)).mono fun _ _ h => ⟨h.1, h.2.symm⟩
theorem rvld_any (x : Str) (hx : x.length ≤ 1000) (bb : ByteArray) (hb : bb = ba x) (w : World) : Calls Try.prog 14 #[.string bb] w fun e w' => e = .returned (.bool (nameOk x)) ∧ w = w' := by
  subst hb
  exact (rvalid_any (ba x) w (by show x.toArray.size ≤ _; unfold maxLen; simp; omega)).mono fun _ _ h => ⟨h.1, h.2.symm⟩

set_option maxRecDepth 100000 in
set_option maxHeartbeats 800000 in
theorem text_bad (ao : Option Addr) (n cap : Nat) (l : List Str) (w : World) (R : Rd w (.slice ao n cap) (ss l)) (hl : l.length ≤ 1000) (hsm : ∀ x ∈ l, x.length ≤ 1000) (hbad : allOk l = false) :
    Calls Try.prog 32 #[.slice ao n cap] w fun e w' => e = .returned (.tuple #[.string ⟨#[]⟩, .int .i64 3]) ∧ w = w' := by
  obtain ⟨hn, h1, h2, h3⟩ := rds_open R
  obtain ⟨g, o, rfl, hg, hc⟩ := h3.resolve_left (fun e => by rw [e] at hbad; cases hbad)
  have HN := hid_of hn
  have hn9 : n ≤ 1000 := by omega
  have HSM := hid_of hsm
  have HBAD := hid_of hbad
  have HC := hid_of hc
  clear R hn hl hsm hbad hc h3
  go_enter Try.func32, Try.ntmps32
  go_wp2
  go_loop [5, 8] (fun sv iv => ∃ (k : Nat) (v : Value), sv = v ∧ k ≤ n ∧ iv = .int .i64 k ∧ Hid (allOk (l.take k) = true)) (fun _ iv => n - (intOf iv).toNat)
  case atStart => exact ⟨0, _, rfl, Nat.zero_le _, rfl, hid_of rfl⟩
  case round =>
    obtain ⟨k, v, rfl, hk, rfl, hall⟩ := hrel
    by_cases hlt : k < n
    · have hd : decide (k < n) = true := by simp; omega
      have hkl : Hid (k < l.length) := hid_of (by have := HN.out; omega)
      obtain ⟨bb, hb⟩ : ∃ bb, bb = ba (l[k]'hkl.out) := ⟨_, rfl⟩
      have c1 := HC.out k (l[k]'hkl.out) (List.getElem?_eq_getElem hkl.out)
      rw [← hb] at c1
      have VC := hid_of (vld_any (l[k]'hkl.out) (HSM.out _ (List.getElem_mem hkl.out)) bb hb)
      obtain ⟨q, hq⟩ : ∃ q, q = nameOk (l[k]'hkl.out) := ⟨_, rfl⟩
      rw [← hq] at VC
      have HQ := hid_of hq
      clear hb hq
      cases q
      · go_wp2_with (go_at_call 13; ((with_reducible refine (VC.out _).mono ?_); (rintro ee w' ⟨rfl, rfl⟩)))
        go_ret2
        exact ⟨rfl, rfl⟩
      · have HALL : Hid (allOk (l.take (k + 1)) = true) := hid_of (by
          rw [take_snoc' hkl.out, allOk, List.all_append, show (l.take k).all nameOk = true from hall.out]; simp [← HQ.out])
        go_wp2_with (go_at_call 13; ((with_reducible refine (VC.out _).mono ?_); (rintro ee w' ⟨rfl, rfl⟩)))
        go_round
        case rel => exact ⟨k + 1, _, rfl, by omega, by go_num, HALL⟩
        case measure => simp [intOf]; omega
    · exfalso
      have h := hall.out
      rw [List.take_of_length_le (by have := HN.out; omega), HBAD.out] at h
      cases h

/-- What the reference has written after k elements. -/
def wr (l : List Str) (k : Nat) : ByteArray := ba (123 :: jn (l.take k))
theorem wr_step0 {l : List Str} (h : 0 < l.length) {bb : ByteArray} (hb : bb = ba (l[0]'h)) : wr l 0 ++ bb = wr l (0 + 1) := by
  subst hb
  unfold wr
  apply ByteArray.ext
  rw [take_snoc' h]
  simp [ba, jn, Lib.join_one, Lib.join_nil]
theorem wr_step {l : List Str} {k : Nat} (h : k < l.length) (hk : k ≠ 0) {bb : ByteArray} (hb : bb = ba (l[k]'h)) : wr l k ++ ⟨#[44]⟩ ++ bb = wr l (k + 1) := by
  subst hb
  unfold wr
  apply ByteArray.ext
  rw [take_snoc' h, jn_snoc _ _ (fun e => by have := congrArg List.length e; rw [List.length_take] at this; simp only [List.length_nil] at this; omega)]
  simp [ba]
theorem wr_size {l : List Str} {k : Nat} (h : ∀ x ∈ l, x.length ≤ 1000) (hl : l.length ≤ 1000) : (wr l k).size ≤ 1002000 := by
  have h1 := jn_len (m := 1000) (l.take k) (fun x hx => h x (List.mem_of_mem_take hx))
  have h2 : (l.take k).length ≤ l.length := by rw [List.length_take]; omega
  show (123 :: jn (l.take k)).toArray.size ≤ _
  simp
  have : (1000 + 1) * (l.take k).length ≤ 1001 * 1000 := Nat.mul_le_mul (Nat.le_refl _) (by omega)
  omega
theorem wr_end (l : List Str) : wr l l.length ++ ⟨#[125]⟩ = ba (123 :: jn l ++ [125]) := by
  unfold wr
  apply ByteArray.ext
  rw [List.take_length]
  simp [ba]

def RText (l : List Str) (w : World) (e : Ending) (w' : World) : Prop := Below w.heap.size w w' ∧
  ((allOk l = true ∧ e = .returned (.tuple #[.string (ba (txt l)), .int .i64 0])) ∨ (allOk l = false ∧ e = .returned (.tuple #[.string ⟨#[]⟩, .int .i64 3])))
set_option maxRecDepth 100000 in
set_option maxHeartbeats 1600000 in
theorem rtext_any (ao : Option Addr) (n cap : Nat) (l : List Str) (w : World) (R : Rd w (.slice ao n cap) (ss l)) (hl : l.length ≤ 1000) (hsm : ∀ x ∈ l, x.length ≤ 1000) :
    Calls Try.prog 33 #[.slice ao n cap] w (RText l w) := by
  have OF := hid_of (rof_any ao n cap l w R (by unfold big; omega))
  obtain ⟨S, hS⟩ : ∃ S, S = setOf l := ⟨_, rfl⟩
  have HTX : Hid (ba (txt l) = ba (123 :: jn S ++ [125])) := hid_of (by rw [hS]; rfl)
  rw [← hS] at OF
  have HSM : Hid (∀ x ∈ S, x.length ≤ 1000) := hid_of (fun x hx => hsm x ((setOf_mem l x).1 (by rw [← hS]; exact hx)))
  have HSL : Hid (S.length ≤ 1000) := hid_of (by rw [hS]; have := setOf_le l; omega)
  have HAO : Hid (allOk S = allOk l) := hid_of (by rw [hS]; exact allOk_set l)
  obtain ⟨m, hm⟩ : ∃ m, m = S.length := ⟨_, rfl⟩
  rw [← hm] at OF
  have HM := hid_of hm
  have hm9 : m ≤ 1000 := by rw [hm]; exact HSL.out
  clear R hl hsm hS hm
  go_enter Try.func33, Try.ntmps33
  go_wp2_with (go_at_call 30; ((with_reducible refine (OF.out).mono ?_); (rintro ee w1 ⟨xo, xc, rfl, h1⟩; have O1 := hid_of h1; clear h1)))
  have RX : Hid (Rd w1 (.slice xo m xc) (ss S)) := hid_of (O1.out.rd (by rw [ss_length]; have := HSL.out; omega))
  obtain ⟨hx0, hx1, hx2, hx3⟩ := rds_open RX.out
  clear hx0
  rcases hx3 with hx3 | ⟨g, o, rfl, hg, hc⟩
  · have HNIL := hid_of hx3
    obtain rfl : m = 0 := by rw [HM.out, hx3]; rfl
    clear hx3
    go_loopw [5, 6] (fun sv iv wx => sv = .string ⟨#[123]⟩ ∧ iv = .int .i64 0 ∧ w1 = wx) (fun _ _ _ => 0)
    case atStart => exact ⟨rfl, rfl, rfl⟩
    case round =>
      obtain ⟨rfl, rfl, rfl⟩ := hrel
      go_wp2
      go_ret2
      exact ⟨O1.out.bel, .inl ⟨by rw [← HAO.out, HNIL.out]; rfl, by rw [HTX.out, HNIL.out] <;> rfl⟩⟩
  · have HC := hid_of hc
    clear hc
    go_loopw [5, 6] (fun sv iv wx => ∃ (k : Nat) (b : ByteArray), sv = .string b ∧ k ≤ m ∧ iv = .int .i64 k ∧ b.size ≤ 1002000 ∧ Hid (b = wr S k) ∧ Hid (allOk (S.take k) = true) ∧ w1 = wx) (fun _ iv _ => m - (intOf iv).toNat)
    case atStart => exact ⟨0, _, rfl, Nat.zero_le _, rfl, by decide, hid_of rfl, hid_of rfl, rfl⟩
    case round =>
      obtain ⟨k, b, rfl, hk, rfl, hb9, hb, hall, rfl⟩ := hrel
      by_cases hlt : k < m
      · have hd : decide (k < m) = true := by simp; omega
        have hkl : Hid (k < S.length) := hid_of (by have := HM.out; omega)
        obtain ⟨bb, hbb⟩ : ∃ bb, bb = ba (S[k]'hkl.out) := ⟨_, rfl⟩
        have c1 := HC.out k (S[k]'hkl.out) (List.getElem?_eq_getElem hkl.out)
        rw [← hbb] at c1
        have VC := hid_of (rvld_any (S[k]'hkl.out) (HSM.out _ (List.getElem_mem hkl.out)) bb hbb)
        obtain ⟨q, hq⟩ : ∃ q, q = nameOk (S[k]'hkl.out) := ⟨_, rfl⟩
        rw [← hq] at VC
        have HQ := hid_of hq
        have HBB := hid_of hbb
        have bb9 : bb.size ≤ 1000 := by rw [hbb]; show (S[k]'hkl.out).toArray.size ≤ _; simp; exact HSM.out _ (List.getElem_mem hkl.out)
        clear hbb hq
        cases q
        · have HF : Hid (allOk l = false) := hid_of (by
            rw [← HAO.out, Bool.eq_false_iff]; intro h
            have := allOk_iff.1 h _ (List.getElem_mem hkl.out); rw [← HQ.out] at this; cases this)
          go_wp2_with (go_at_call 14; ((with_reducible refine (VC.out _).mono ?_); (rintro ee w' ⟨rfl, rfl⟩)))
          go_ret2
          exact ⟨O1.out.bel, .inr ⟨HF.out, rfl⟩⟩
        · have HALL : Hid (allOk (S.take (k + 1)) = true) := hid_of (by
            rw [take_snoc' hkl.out, allOk, List.all_append, show (S.take k).all nameOk = true from hall.out]; simp [← HQ.out])
          by_cases h0 : k = 0
          · have g0 : decide (0 < k) = false := by simp; omega
            have STEP : Hid (b ++ bb = wr S (k + 1)) := hid_of (by subst h0; rw [hb.out]; exact wr_step0 hkl.out HBB.out)
            have SZ : Hid ((b ++ bb).size ≤ 1002000) := hid_of (by rw [STEP.out]; exact wr_size HSM.out HSL.out)
            clear h0
            go_wp2_with (go_at_call 14; ((with_reducible refine (VC.out _).mono ?_); (rintro ee w' ⟨rfl, rfl⟩)))
            go_roundw
            case rel => exact ⟨k + 1, _, rfl, by omega, by go_num, SZ.out, STEP, HALL, trivial⟩
            case measure => simp [intOf]; omega
          · have g0 : decide (0 < k) = true := by simp; omega
            have STEP : Hid (b ++ ⟨#[44]⟩ ++ bb = wr S (k + 1)) := hid_of (by rw [hb.out]; exact wr_step hkl.out h0 HBB.out)
            have SZ : Hid ((b ++ ⟨#[44]⟩ ++ bb).size ≤ 1002000) := hid_of (by rw [STEP.out]; exact wr_size HSM.out HSL.out)
            clear h0
            go_wp2_with (go_at_call 14; ((with_reducible refine (VC.out _).mono ?_); (rintro ee w' ⟨rfl, rfl⟩)))
            go_roundw
            case rel => exact ⟨k + 1, _, rfl, by omega, by go_num, SZ.out, STEP, HALL, trivial⟩
            case measure => simp [intOf]; omega
      · have hd : decide (k < m) = false := by simp; omega
        have HF : Hid (allOk l = true) := hid_of (by
          have h := hall.out
          rw [List.take_of_length_le (by have := HM.out; omega), HAO.out] at h; exact h)
        have HE : Hid (b ++ ⟨#[125]⟩ = ba (txt l)) := hid_of (by rw [HTX.out, hb.out, show k = S.length by have := HM.out; omega]; exact wr_end S)
        go_wp2
        go_ret2
        exact ⟨O1.out.bel, .inl ⟨HF.out, by rw [← HE.out] <;> rfl⟩⟩
end Go.Proofs.Ytpbjnbceloibnaa
