/- Items: put and written. No condition but bounds on sizes. -/
import Derived.Test.YtijjaoabkbeeeaaWireLaw
namespace Go.Proofs.Ytijjaoabkbeeeaa
open Go.RowKit

/-- An item: its kind, its number, and its bytes, which lie behind ao. -/
structure It where
  kind : Int
  n : Nat
  ao : Option Addr
  m : List Int
  cap : Nat

/-- The number as a signed one. -/
def sgn (n : Nat) : Int := wrap64 (n : Int)
theorem sgn_bd (n : Nat) : -9223372036854775808 ≤ sgn n ∧ sgn n ≤ 9223372036854775807 := by unfold sgn wrap64; omega

def encIt (x : It) : List Int :=
  if x.kind = 0 then enc x.n else if x.kind = 1 then enc (zig (sgn x.n)) else if x.kind = 2 then [if x.n % 2 = 1 then 1 else 0] else enc x.m.length ++ x.m
def encAll (its : List It) : List Int := its.flatMap encIt

/-- The item's bytes lie in the world w, below B. -/
structure ItOk (B : Nat) (w : World) (x : It) : Prop where
  n : x.n < 18446744073709551616
  len : x.m.length ≤ 60000000000000
  nil : x.ao = none → x.cap = 0
  rng : ∀ y ∈ x.m, 0 ≤ y ∧ y ≤ 255
  src : 0 < x.m.length → ∃ ad, x.ao = some ad ∧ ad.block < B ∧ ∀ j u, (bs x.m)[j]? = some u → w.cell? (ad.add j) = some u

theorem add_block (ad : Addr) (j : Nat) : (ad.add j).block = ad.block := by unfold Addr.add; split <;> rfl
theorem ItOk.cells {B : Nat} {w0 w : World} {x : It} (h : ItOk B w0 x) (hb : Below B w0 w) : 0 < x.m.length → ∃ ad, x.ao = some ad ∧ ∀ j u, (bs x.m)[j]? = some u → w.cell? (ad.add j) = some u := by
  intro h0
  obtain ⟨ad, h1, h2, h3⟩ := h.src h0
  refine ⟨ad, h1, fun j u hu => ?_⟩
  rw [hb.cell (by rw [add_block]; exact h2)]
  exact h3 j u hu

theorem encIt0 (n : Nat) (ao : Option Addr) (m : List Int) (cap : Nat) : encIt ⟨0, n, ao, m, cap⟩ = enc n := by unfold encIt; rw [if_pos rfl]
theorem encIt1 (n : Nat) (ao : Option Addr) (m : List Int) (cap : Nat) : encIt ⟨1, n, ao, m, cap⟩ = enc (zig (sgn n)) := by unfold encIt; rw [if_neg (show ¬ (1 : Int) = 0 by decide), if_pos rfl]
theorem encIt2 (n : Nat) (ao : Option Addr) (m : List Int) (cap : Nat) : encIt ⟨2, n, ao, m, cap⟩ = [if n % 2 = 1 then 1 else 0] := by unfold encIt; rw [if_neg (show ¬ (2 : Int) = 0 by decide), if_neg (show ¬ (2 : Int) = 1 by decide), if_pos rfl]

theorem strOfNums_bytes (m : List Int) (h : ∀ y ∈ m, 0 ≤ y ∧ y ≤ 255) : strBytes (strOfNums m) = m := by
  unfold strBytes
  rw [strOfNums_data, List.map_map]
  refine (List.map_congr_left fun y hy => ?_).trans (List.map_id m)
  have := h y hy
  simp
  omega

theorem WS.bel {B b : Nat} {w0 w : World} {l : List Int} (h : WS B b w0 w l) : Below B w0 w := h.2.2.1
theorem bytes_ws (ao : Option Addr) (m : List Int) (cap : Nat) (b B : Nat) (l : List Int) (w0 w : World) (h : WS B b w0 w l) (hs : m.length ≤ 70000000000000) (hl : l.length ≤ 70000000000000)
    (hnil : ao = none → cap = 0) (hsrc : 0 < m.length → ∃ ad, ao = some ad ∧ ad.block < B ∧ ∀ j u, (bs m)[j]? = some u → w0.cell? (ad.add j) = some u) :
    Calls Try.prog 26 #[.pointer (some ⟨b, 0, none⟩), .slice ao m.length cap] w fun e w' => e = .returned (.tuple #[]) ∧ WS B b w0 w' (l ++ enc m.length ++ m) := by
  have hB := h.size
  obtain ⟨h1, h2, h3, v, hv⟩ := h
  refine (bytes_any ao m cap b B v l w hv hs hl hB hnil fun h0 => ?_).mono fun e w' ⟨he, v', hv', hk, _⟩ => ⟨he, WS.step h1 h2 h3 hv hv' hk⟩
  obtain ⟨ad, q1, q2, q3⟩ := hsrc h0
  refine ⟨ad, q1, by omega, by omega, fun e => ?_, fun j u hu => ?_⟩
  · have := (hv.own.lt _ e).1; omega
  · rw [h3.cell (by rw [add_block]; exact q2)]
    exact q3 j u hu

set_option maxHeartbeats 800000 in
theorem put_any (x : It) (b B : Nat) (l : List Int) (w0 w : World) (h : WS B b w0 w l) (hx : ItOk B w0 x) (hl : l.length ≤ 60000000000000) :
    Calls Try.prog 33 #[.pointer (some ⟨b, 0, none⟩), .agg #[.int .i64 x.kind, .int .u64 x.n, .slice x.ao x.m.length x.cap]] w fun e w' => e = .returned (.tuple #[]) ∧ WS B b w0 w' (l ++ encIt x) := by
  obtain ⟨kind, n, ao, m, cap⟩ := x
  have hn := hx.n
  have hm := hx.len
  have hsg := sgn_bd n
  simp only at hn hm ⊢
  have H : ∀ o : Obj, Hid (WS B b w0 (w.alloc o) l) := fun o => hid_of ⟨h.1, h.2.1, h.2.2.1.alloc h.size _, by obtain ⟨v, hv⟩ := h.2.2.2; exact ⟨v, hv.alloc o⟩⟩
  have HX := hid_of hx
  clear h hx
  by_cases k0 : kind = 0
  · subst k0
    go_enter Try.func33, Try.ntmps33
    go_wp2_with (go_at_call 28; refine (uint_ws n b B l w0 _ hn (H _).out (by omega)).mono ?_; rintro e w1 ⟨rfl, h1⟩; have H1 := hid_of h1; clear h1)
    go_end0
    refine ⟨rfl, ?_⟩
    rw [encIt0]
    exact H1.out
  · by_cases k1 : kind = 1
    · subst k1
      go_enter Try.func33, Try.ntmps33
      go_wp2_with (go_at_call 29; refine (int_ws (sgn n) b B l w0 _ hsg.1 hsg.2 (H _).out (by omega)).mono ?_; rintro e w1 ⟨rfl, h1⟩; have H1 := hid_of h1; clear h1)
      go_end0
      refine ⟨rfl, ?_⟩
      rw [encIt1]
      exact H1.out
    · by_cases k2 : kind = 2
      · subst k2
        go_enter Try.func33, Try.ntmps33
        go_wp2_with (go_at_call 30; refine (bool_ws _ b B l w0 _ (H _).out (by omega)).mono ?_; rintro e w1 ⟨rfl, h1⟩; have H1 := hid_of h1; clear h1)
        go_end0
        refine ⟨rfl, ?_⟩
        have h1 := H1.out
        have e : (if (((n : Int) % 2 == 1) : Bool) then (1 : Int) else 0) = if n % 2 = 1 then 1 else 0 := by
          by_cases hc : n % 2 = 1
          · rw [if_pos hc, if_pos (by simp; omega)]
          · rw [if_neg hc, if_neg (by simp; omega)]
        rw [e] at h1
        rw [encIt2]
        exact h1
      · have e0 : (kind == 0) = false := by simp [k0]
        have e1 : (kind == 1) = false := by simp [k1]
        have e2 : (kind == 2) = false := by simp [k2]
        have HE : Hid (encIt ⟨kind, n, ao, m, cap⟩ = enc m.length ++ m) := hid_of (by unfold encIt; rw [if_neg k0, if_neg k1, if_neg k2])
        clear k0 k1 k2
        by_cases k3 : kind = 3
        · subst k3
          go_enter Try.func33, Try.ntmps33
          go_wp2_with (go_at_call 26; refine (bytes_ws ao m cap b B l w0 _ (H _).out (by omega) (by omega) HX.out.nil HX.out.src).mono ?_; rintro e w1 ⟨rfl, h1⟩; have H1 := hid_of h1; clear h1)
          go_end0
          refine ⟨rfl, ?_⟩
          rw [HE.out, ← List.append_assoc]
          exact H1.out
        · have e3 : (kind == 3) = false := by simp [k3]
          clear k3
          go_enter Try.func33, Try.ntmps33
          go_wp2_with (first
            | (with_reducible refine wpList_str _ rfl 25 9 _ rfl 5 Try.underlying25 Try.underlying5 Try.underlying9 ao m cap rfl (ItOk.cells HX.out (WS.bel (H _).out)) ?_)
            | (go_at_call 31; refine (text_ws (strOfNums m) b B l w0 _ (by rw [strOfNums_size]; omega) (H _).out (by omega)).mono ?_; rintro e w1 ⟨rfl, h1⟩; have H1 := hid_of h1; clear h1))
          go_end0
          refine ⟨rfl, ?_⟩
          have := H1.out
          rw [strOfNums_bytes m HX.out.rng, strOfNums_size] at this
          rw [HE.out, ← List.append_assoc]
          exact this

/-- The items, as cells: three a piece. -/
structure Items (B : Nat) (w : World) (a o : Nat) (its : List It) : Prop where
  lt : 0 < its.length → a < B
  c0 : ∀ i x, its[i]? = some x → w.cell? ⟨a, o + i * 3, none⟩ = some (.int .i64 x.kind)
  c1 : ∀ i x, its[i]? = some x → w.cell? ⟨a, o + i * 3 + 1, none⟩ = some (.int .u64 x.n)
  c2 : ∀ i x, its[i]? = some x → w.cell? ⟨a, o + i * 3 + 2, none⟩ = some (.slice x.ao x.m.length x.cap)
  ok : ∀ x ∈ its, ItOk B w x

theorem encIt_le (x : It) (h : x.n < 18446744073709551616) : (encIt x).length ≤ x.m.length + 10 + (enc x.m.length).length := by
  have h1 := enc_length_10 x.n h
  have h2 := enc_length_10 (zig (sgn x.n)) (zig_lt _ (sgn_bd _).1 (sgn_bd _).2)
  unfold encIt
  split
  · omega
  · split
    · omega
    · split
      · simp; omega
      · simp; omega
theorem encIt_le20 (x : It) (h : x.n < 18446744073709551616) (hm : x.m.length ≤ 60000000000000) : (encIt x).length ≤ x.m.length + 20 := by
  have := encIt_le x h
  have := enc_length_10 x.m.length (by omega)
  omega

theorem encAll_take_succ (its : List It) (k : Nat) (x : It) (h : its[k]? = some x) : encAll (its.take (k + 1)) = encAll (its.take k) ++ encIt x := by
  unfold encAll
  rw [List.take_add_one, h]
  simp

set_option maxHeartbeats 800000 in
theorem written_any (a o : Nat) (its : List It) (cap : Nat) (w : World) (h : Items w.heap.size w a o its) (hn : its.length ≤ 100000000000) (hL : ∀ k, (encAll (its.take k)).length ≤ 60000000000000) :
    Calls Try.prog 12 #[.slice (some ⟨a, o, none⟩) its.length cap] w fun e w' => ∃ g, e = .returned (.slice (some ⟨g, 0, none⟩) (encAll its).length (encAll its).length) ∧
      w'.heap[g]? = some (.cells (bs (encAll its)).toArray 5 (0, 0)) ∧ w.heap.size ≤ g ∧ Below w.heap.size w w' := by
  have H0 := hid_of (ws_new w)
  have HI := hid_of h
  clear h
  go_enter Try.func12, Try.ntmps12
  go_wp2
  go_loopw [4] (fun iv wr => ∃ k : Nat, k ≤ its.length ∧ iv = .int .i64 k ∧ Hid (WS w.heap.size w.heap.size w wr (encAll (its.take k)))) (fun i _ => its.length - (intOf i).toNat)
  case atStart => exact ⟨0, Nat.zero_le _, rfl, H0⟩
  case round =>
    obtain ⟨k, hk, rfl, hws⟩ := hrel
    by_cases hlt : k < its.length
    · obtain ⟨x, hx⟩ : ∃ x, its[k]? = some x := ⟨its[k], by simp [hlt]⟩
      have hb := hws.out.bel
      have ha := HI.out.lt (by omega)
      have c0 := (hb.cell (p := ⟨a, o + k * 3, none⟩) ha).trans (HI.out.c0 k x hx)
      have c1 := (hb.cell (p := ⟨a, o + k * 3 + 1, none⟩) ha).trans (HI.out.c1 k x hx)
      have c2 := (hb.cell (p := ⟨a, o + k * 3 + 2, none⟩) ha).trans (HI.out.c2 k x hx)
      have HOK := hid_of (HI.out.ok x (List.mem_of_getElem? hx))
      have HX := hid_of hx
      clear hx hb
      go_wp2_with (go_at_call 33; refine (put_any x w.heap.size w.heap.size (encAll (its.take k)) w _ hws.out HOK.out (hL k)).mono ?_; rintro e w1 ⟨rfl, h1⟩; have H1 := hid_of h1; clear h1)
      go_roundw
      case rel =>
        refine ⟨k + 1, by omega, by go_num, hid_of ?_⟩
        rw [encAll_take_succ its k x HX.out]
        exact H1.out
      case measure => simp [intOf]; omega
    · obtain rfl : k = its.length := by omega
      rw [List.take_length] at hws
      have hLL := hL its.length
      rw [List.take_length] at hLL
      go_wp2_with (go_at_call 27; refine (data_ws w.heap.size w.heap.size (encAll its) w _ hws.out (by omega)).mono ?_; rintro e w1 ⟨rfl, h1, h2⟩; have H1 := hid_of h1; have H2 := hid_of h2; clear h1 h2)
      go_ret
      exact ⟨_, rfl, H1.out, hws.out.bel.size, H2.out.bel⟩

end Go.Proofs.Ytijjaoabkbeeeaa
