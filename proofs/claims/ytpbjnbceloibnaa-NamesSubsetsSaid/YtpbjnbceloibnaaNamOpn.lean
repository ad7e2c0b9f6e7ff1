/- A slice of strings that came in. Bounds on sizes alone. -/
import Derived.SliceStrings
import Derived.Test.YtpbjnbceloibnaaRows
import Derived.Test.YtpbjnbceloibnaaNamAwk
namespace Go.Proofs.Ytpbjnbceloibnaa
open Go.RowKit Go.ChangeShapes

theorem open_strl {H : Type} {enc : TypeId × Value → H} {w : World} {fuel len cap : Nat} {a : Option Addr} {x : DataW H × List MemPlace} (h : DataW.trod enc Try.prog w 0 (fun _ => true) true fuel 24 [.slice a len cap] = some x) :
    ∃ l : List Str, Rd w (.slice a len cap) (ss l) := by
  rcases open_strings Try.underlying24 Try.underlying9 (by kernel_rfl) h with ⟨e, _⟩ | ⟨ad, len', cap', sl, e, _, hl, hm, hz, _, hcell, _⟩
  · simp only [List.cons.injEq, Value.slice.injEq, and_true] at e
    obtain ⟨rfl, rfl, rfl⟩ := e
    exact ⟨[], none, 0, rfl, Nat.le_refl _, by omega, fun h => by simp [ss] at h⟩
  · simp only [List.cons.injEq, Value.slice.injEq, and_true] at e
    obtain ⟨rfl, rfl, rfl⟩ := e
    simp only [if_true] at hz
    unfold maxLen at hm
    have htl : (sl.take len).length = len := by rw [List.length_take]; omega
    refine ⟨(sl.take len).map (·.data.toList), some ad, cap, by rw [ss_length, List.length_map, htl], by rw [ss_length, List.length_map, htl]; exact hl, by omega, fun h0 => ?_⟩
    rw [ss_length, List.length_map, htl] at h0
    have h6 := hcell 0 (by omega)
    rw [show ad.add 0 = ad by rfl] at h6
    have hx := spot_none h6
    refine ⟨ad.block, ad.off, by rw [← hx], World.block_lt_of_cell? w _ h6, fun j u hu => ?_⟩
    have hj : j < len := by
      have := (List.getElem?_eq_some_iff.1 hu).1
      rw [ss_length, List.length_map, htl] at this; exact this
    have h7 := hcell j (by omega)
    rw [hx, Addr.add_mid] at h7
    rw [h7, ← hu]
    have hjs : j < sl.length := by omega
    simp [ss, hj, List.getElem?_eq_getElem hjs, List.getD, ba_of]

/-- What the statements look at. -/
def smallB (l : List Str) : Bool := decide (l.length ≤ 30) && l.all (fun x => decide (x.length ≤ 40))
theorem smallB_iff {l : List Str} : smallB l = true ↔ l.length ≤ 30 ∧ ∀ x ∈ l, x.length ≤ 40 := by simp [smallB]
theorem ba_size (x : Str) : (ba x).size = x.length := by show x.toArray.size = _; simp
set_option maxRecDepth 100000 in
theorem small_any (ao : Option Addr) (n cap : Nat) (l : List Str) (w : World) (R : Rd w (.slice ao n cap) (ss l)) :
    Calls Try.prog 15 #[.slice ao n cap] w fun e w' => e = .returned (.bool (smallB l)) ∧ w = w' := by
  obtain ⟨hn, h1, h2, h3⟩ := rds_open R
  obtain ⟨r, hr⟩ : ∃ r, r = smallB l := ⟨_, rfl⟩
  rw [← hr]
  have HR := hid_of hr
  have HN := hid_of hn
  clear hr R hn
  by_cases h30 : 30 < n
  · have d0 : decide ((30 : Int) < (n : Int)) = true := by simp; omega
    have d1 : decide (30 < n) = true := by simp; omega
    have RF : Hid (r = false) := hid_of (by rw [HR.out, Bool.eq_false_iff]; intro h; have := (smallB_iff.1 h).1; have := HN.out; omega)
    go_enter Try.func15, Try.ntmps15
    go_wp2
    go_ret
    exact ⟨ret_b RF.out.symm, rfl⟩
  · have d0 : decide ((30 : Int) < (n : Int)) = false := by simp; omega
    have d1 : decide (30 < n) = false := by simp; omega
    have H30 := hid_of h30
    have hn30 : n ≤ 30 := by omega
    clear h30
    rcases h3 with h3 | ⟨g, o, rfl, hg, hc⟩
    · have RF : Hid (r = true) := hid_of (by rw [HR.out, h3]; rfl)
      obtain rfl : n = 0 := by rw [HN.out, h3]; rfl
      clear h3 HN
      go_enter Try.func15, Try.ntmps15
      go_wp2
      go_loop [3] (fun iv => iv = .int .i64 0) (fun iv => 0)
      case atStart => exact rfl
      case round =>
        obtain rfl := hrel
        go_wp2
        go_ret
        exact ⟨ret_b RF.out.symm, rfl⟩
    · have HC := hid_of hc
      clear hc
      go_enter Try.func15, Try.ntmps15
      go_wp2
      go_loop [3] (fun iv => ∃ k : Nat, k ≤ n ∧ iv = .int .i64 k ∧ Hid (∀ x ∈ l.take k, x.length ≤ 40)) (fun iv => n - (intOf iv).toNat)
      case atStart => exact ⟨0, Nat.zero_le _, rfl, hid_of (by simp)⟩
      case round =>
        obtain ⟨k, hk, rfl, hx⟩ := hrel
        by_cases hlt : k < n
        · have hd : decide (k < n) = true := by simp; omega
          have hkl : Hid (k < l.length) := hid_of (by have := HN.out; omega)
          obtain ⟨bb, hb⟩ : ∃ bb, bb = ba (l[k]'hkl.out) := ⟨_, rfl⟩
          have c1 := HC.out k (l[k]'hkl.out) (List.getElem?_eq_getElem hkl.out)
          rw [← hb] at c1
          have hsz : bb.size = (l[k]'hkl.out).length := by rw [hb, ba_size]
          have HSZ := hid_of hsz
          clear hb hsz
          by_cases e : 40 < bb.size
          · have t1 : decide ((40 : Int) < (bb.size : Int)) = true := by simp; omega
            have t2 : decide (40 < bb.size) = true := by simp; omega
            have RF : Hid (r = false) := hid_of (by
              rw [HR.out, Bool.eq_false_iff]; intro h; have := (smallB_iff.1 h).2 _ (List.getElem_mem hkl.out); have := HSZ.out; omega)
            clear e
            go_wp2
            go_ret
            exact ⟨ret_b RF.out.symm, rfl⟩
          · have t1 : decide ((40 : Int) < (bb.size : Int)) = false := by simp; omega
            have t2 : decide (40 < bb.size) = false := by simp; omega
            have hx2 : Hid (∀ x ∈ l.take (k + 1), x.length ≤ 40) := hid_of (fun x hxm => by
              rw [take_snoc' hkl.out, List.mem_append, List.mem_singleton] at hxm
              rcases hxm with h | h
              · exact hx.out x h
              · rw [h, ← HSZ.out]; omega)
            clear e
            go_wp2
            go_round
            case rel => exact ⟨k + 1, by omega, by go_num, hx2⟩
            case measure => simp [intOf]; omega
        · have hd : decide (k < n) = false := by simp; omega
          have RF : Hid (r = true) := hid_of (by
            rw [HR.out]; have h := hx.out; rw [List.take_of_length_le (by have := HN.out; omega)] at h
            exact smallB_iff.2 ⟨by have := HN.out; omega, h⟩)
          go_wp2
          go_ret
          exact ⟨ret_b RF.out.symm, rfl⟩
end Go.Proofs.Ytpbjnbceloibnaa
