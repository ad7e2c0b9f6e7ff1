/- Text of package names; strings.Join by the library's contract. Bounds on sizes alone. -/
import Derived.Test.YtpbjnbceloibnaaNamPar
namespace Go.Proofs.Ytpbjnbceloibnaa
open Go.RowKit

def nameOk (x : Str) : Bool := isName (strBytes (ba x))
def jn (l : List Str) : Str := Lib.join l [44]
theorem joinTail_cons (x : Str) (r : List Str) : Lib.joinTail [44] (x :: r) = 44 :: x ++ Lib.joinTail [44] r := by simp [Lib.joinTail]
theorem joinTail_app (a b : List Str) : Lib.joinTail [44] (a ++ b) = Lib.joinTail [44] a ++ Lib.joinTail [44] b := by simp [Lib.joinTail]
theorem jn_cons (x : Str) (r : List Str) : jn (x :: r) = x ++ Lib.joinTail [44] r := Lib.join_cons x r [44]
theorem jn_snoc (l : List Str) (x : Str) (h : l ≠ []) : jn (l ++ [x]) = jn l ++ 44 :: x := by
  cases l with
  | nil => exact absurd rfl h
  | cons y r => rw [List.cons_append, jn_cons, jn_cons, joinTail_app, joinTail_cons, List.append_assoc]; simp [Lib.joinTail]
theorem jt_len {m : Nat} : ∀ l : List Str, (∀ x ∈ l, x.length ≤ m) → (Lib.joinTail [44] l).length ≤ (m + 1) * l.length := by
  intro l; induction l with
  | nil => intro _; simp [Lib.joinTail]
  | cons x l ih =>
    intro h
    have h1 := ih (fun y hy => h y (by simp [hy]))
    have h2 := h x (by simp)
    rw [joinTail_cons, List.length_append, List.length_cons, List.length_cons, Nat.mul_add, Nat.mul_one]
    omega
theorem jn_len {m : Nat} (l : List Str) (h : ∀ x ∈ l, x.length ≤ m) : (jn l).length ≤ (m + 1) * l.length := by
  cases l with
  | nil => simp [jn, Lib.join_nil]
  | cons x r =>
    have h1 := jt_len r (fun y hy => h y (by simp [hy]))
    have h2 := h x (by simp)
    rw [jn_cons, List.length_append, List.length_cons, Nat.mul_add, Nat.mul_one]
    omega
theorem nameOk_len {x : Str} (h : nameOk x = true) : x.length ≤ 16 := by
  have := ((isName_iff _).1 h).2.1
  rw [strBytes_length] at this
  exact this

theorem join_any (xo : Option Addr) (n xc : Nat) (l : List Str) (w : World) (R : Rd w (.slice xo n xc) (ss l)) (hl : (jn l).length ≤ 140737488355328) (hn9 : l.length ≤ big) :
    Calls Try.prog 47 #[.slice xo n xc, .string ⟨#[44]⟩] w fun e w' => e = .returned (.string (ba (jn l))) ∧ Below w.heap.size w w' := by
  obtain ⟨rfl, h1, h2, h3⟩ := rds_open R
  rcases h3 with rfl | ⟨g, o, rfl, hg, hc⟩
  · refine (sh_strings_Join_none xo xc ⟨#[44]⟩ w).mono ?_
    rintro e w' ⟨rfl, rfl⟩
    exact ⟨rfl, Below.refl _ _⟩
  · have key := sh_strings_Join g o xc (l.map ba) ⟨#[44]⟩ w (fun j x hx => ?_) hg (by unfold big at hn9; simp; omega) (by simpa using h1) (by
      have e : (l.map ba).map (·.data.toList) = l := by rw [List.map_map]; exact List.map_id l
      rw [e]; exact hl)
    · have e : (l.map ba).map (·.data.toList) = l := by rw [List.map_map]; exact List.map_id l
      rw [e, List.length_map] at key
      exact key
    · simp only [List.getElem?_map, Option.map_eq_some_iff] at hx
      obtain ⟨y, hy, rfl⟩ := hx
      exact hc j y hy

/-- The text of a set. -/
def txt (l : List Str) : Str := 123 :: jn (setOf l) ++ [125]

set_option maxRecDepth 100000 in
set_option maxHeartbeats 800000 in
theorem text_ok (ao : Option Addr) (n cap : Nat) (l : List Str) (w : World) (R : Rd w (.slice ao n cap) (ss l)) (hl : l.length ≤ 1000) (hok : ∀ x ∈ l, nameOk x = true) :
    Calls Try.prog 32 #[.slice ao n cap] w fun e w' => e = .returned (.tuple #[.string (ba (txt l)), .int .i64 0]) ∧ Below w.heap.size w w' := by
  have hjn : (jn (setOf l)).length ≤ 17000 := by
    have h1 := jn_len (m := 16) (setOf l) (fun x hx => nameOk_len (hok x ((setOf_mem l x).1 hx)))
    have h2 := setOf_le l
    omega
  obtain ⟨hn, h1, h2, h3⟩ := rds_open R
  have OF := hid_of (of_any ao n cap l w R (by unfold big; omega))
  have JN : Hid (∀ xo xc w1, Rd w1 (.slice xo (setOf l).length xc) (ss (setOf l)) → Calls Try.prog 47 #[.slice xo (setOf l).length xc, .string ⟨#[44]⟩] w1 fun e w' => e = .returned (.string (ba (jn (setOf l)))) ∧ Below w1.heap.size w1 w') :=
    hid_of (fun xo xc w1 R => join_any xo _ xc (setOf l) w1 R (by omega) (by have := setOf_le l; unfold big; omega))
  have HSL : Hid ((ss (setOf l)).length ≤ 140737488355328) := hid_of (by rw [ss_length]; have := setOf_le l; omega)
  have HTX : Hid (ba (txt l) = ⟨#[123]⟩ ++ ba (jn (setOf l)) ++ ⟨#[125]⟩) := hid_of (by
    unfold txt
    apply ByteArray.ext
    simp [ba])
  obtain ⟨so, hso⟩ : ∃ so, so = setOf l := ⟨_, rfl⟩
  rw [← hso] at OF JN HSL HTX
  obtain ⟨js, hjs⟩ : ∃ js, js = ba (jn so) := ⟨_, rfl⟩
  rw [← hjs] at JN HTX
  have hj9 : js.size ≤ 17000 := by rw [hjs, hso]; exact hjn
  have HN := hid_of hn
  have hn9 : n ≤ 1000 := by omega
  have HOK := hid_of hok
  clear R hn hl hok hso hjs hjn
  rcases h3 with h3 | ⟨g, o, rfl, hg, hc⟩
  · obtain rfl : n = 0 := by rw [HN.out, h3]; rfl
    clear h3 HN
    go_enter Try.func32, Try.ntmps32
    go_wp2
    go_loop [5, 8] (fun sv iv => ∃ v : Value, sv = v ∧ iv = .int .i64 0) (fun _ iv => 0)
    case atStart => exact ⟨_, rfl, rfl⟩
    case round =>
      obtain ⟨v, rfl, rfl⟩ := hrel
      go_wp2_with (first
        | (go_at_call 17; ((with_reducible refine (OF.out).mono ?_); (rintro ee w1 ⟨xo1, xc1, rfl, h1⟩; have O1 := hid_of h1; clear h1)))
        | (go_at_call 47; ((with_reducible refine (JN.out xo1 xc1 w1 (O1.out.rd HSL.out)).mono ?_); (rintro ee w2 ⟨rfl, h1⟩; have B2 := hid_of h1; clear h1))))
      go_ret2
      exact ⟨by rw [HTX.out] <;> rfl, step_b O1.out.bel B2.out O1.out.size⟩
  · have HC := hid_of hc
    clear hc
    go_enter Try.func32, Try.ntmps32
    go_wp2
    go_loop [5, 8] (fun sv iv => ∃ (k : Nat) (v : Value), sv = v ∧ k ≤ n ∧ iv = .int .i64 k) (fun _ iv => n - (intOf iv).toNat)
    case atStart => exact ⟨0, _, rfl, Nat.zero_le _, rfl⟩
    case round =>
      obtain ⟨k, v, rfl, hk, rfl⟩ := hrel
      by_cases hlt : k < n
      · have hd : decide (k < n) = true := by simp; omega
        have hkl : Hid (k < l.length) := hid_of (by have := HN.out; omega)
        obtain ⟨bb, hb⟩ : ∃ bb, bb = ba (l[k]'hkl.out) := ⟨_, rfl⟩
        have c1 := HC.out k (l[k]'hkl.out) (List.getElem?_eq_getElem hkl.out)
        rw [← hb] at c1
        have VC : Hid (∀ w, Calls Try.prog 13 #[.string bb] w fun e w' => e = .returned (.bool true) ∧ w = w') := hid_of (fun w => by
          have h9 := nameOk_len (HOK.out _ (List.getElem_mem hkl.out))
          have h := valid_any bb w (by rw [hb]; show (l[k]'hkl.out).toArray.size ≤ _; unfold maxLen; simp; omega)
          have e1 : isName (strBytes bb) = true := by rw [hb]; exact HOK.out _ (List.getElem_mem hkl.out)
          rw [e1] at h
          exact h.mono fun _ _ h => ⟨h.1, h.2.symm⟩)
        clear hb
        go_wp2_with (go_at_call 13; ((with_reducible refine (VC.out _).mono ?_); (rintro ee w' ⟨rfl, rfl⟩)))
        go_round
        case rel => exact ⟨k + 1, _, rfl, by omega, by go_num⟩
        case measure => simp [intOf]; omega
      · have hd : decide (k < n) = false := by simp; omega
        go_wp2_with (first
          | (go_at_call 17; ((with_reducible refine (OF.out).mono ?_); (rintro ee w1 ⟨xo1, xc1, rfl, h1⟩; have O1 := hid_of h1; clear h1)))
          | (go_at_call 47; ((with_reducible refine (JN.out xo1 xc1 w1 (O1.out.rd HSL.out)).mono ?_); (rintro ee w2 ⟨rfl, h1⟩; have B2 := hid_of h1; clear h1))))
        go_ret2
        exact ⟨by rw [HTX.out] <;> rfl, step_b O1.out.bel B2.out O1.out.size⟩
end Go.Proofs.Ytpbjnbceloibnaa
