/- A slice of sets of the call's own, and append onto it; the program's isAbove. Bounds on sizes alone. -/
import Derived.Test.YtpbjnbceloibnaaNamSbm
import Derived.Maps.AppendAt
namespace Go.Proofs.Ytpbjnbceloibnaa
open Go.RowKit

theorem famE : Elem Try.prog 35 24 (.slice none 0 0) 24 := ⟨Try.underlying35, by kernel_rfl, rfl⟩
/-- The slice v reads as the set T, in a block other than k. -/
def RdX (w : World) (k : Option Nat) (v : Value) (T : List Str) : Prop :=
  ∃ ao cap, v = .slice ao T.length cap ∧ Rd w v (ss T) ∧ (0 < T.length → ∃ g o, ao = some ⟨g, o, none⟩ ∧ g < w.heap.size ∧ some g ≠ k)
theorem RdX.later {w w' : World} {k : Option Nat} {v : Value} {T : List Str} (h : RdX w k v T) (hb : Below w.heap.size w w') : RdX w' k v T := by
  obtain ⟨ao, cap, h1, h2, h3⟩ := h
  refine ⟨ao, cap, h1, h2.at hb, fun h0 => ?_⟩
  obtain ⟨g, o, q1, q2, q3⟩ := h3 h0
  exact ⟨g, o, q1, Nat.lt_of_lt_of_le q2 hb.size, q3⟩
theorem RdX.grown {w w' : World} {k k' : Option Nat} {v : Value} {T : List Str} (h : RdX w k v T) (hg : w.grownBy w' k) (hk : k' = k ∨ k' = some w.heap.size) : RdX w' k' v T := by
  obtain ⟨ao, cap, rfl, ⟨ao2, cap2, e, h4, h5, h6⟩, h3⟩ := h
  simp only [Value.slice.injEq] at e
  obtain ⟨rfl, _, rfl⟩ := e
  rw [ss_length] at h4 h6
  have h7 : 0 < T.length → ∃ g o, ao = some ⟨g, o, none⟩ ∧ g < w'.heap.size ∧ some g ≠ k' := fun h0 => by
    obtain ⟨g, o, q1, q2, q3⟩ := h3 h0
    refine ⟨g, o, q1, Nat.lt_of_lt_of_le q2 hg.size, ?_⟩
    rcases hk with rfl | rfl
    · exact q3
    · intro e; cases e; omega
  refine ⟨ao, cap, rfl, ⟨ao, cap, by rw [ss_length], by rw [ss_length]; exact h4, h5, fun h0 => ?_⟩, h7⟩
  rw [ss_length] at h0
  obtain ⟨g, o, q1, q2, q3⟩ := h6 h0
  obtain ⟨g2, o2, p1, _, p3⟩ := h3 h0
  rw [q1] at p1
  cases p1
  exact ⟨g, o, q1, Nat.lt_of_lt_of_le q2 hg.size, fun j u hu => (World.cell?_of_block (hg.block g q2 p3)).trans (q3 j u hu)⟩

/-- A slice of the call's own that holds the sets all. -/
def Fam (B : Nat) (w0 w : World) (v : Value) (all : List (List Str)) : Prop :=
  ∃ vals, vals.length = all.length ∧ Ow 24 B w0 w v vals ∧ ∀ i, i < all.length → RdX w v.ownBlock (vals.getD i (.slice none 0 0)) (all.getD i [])
theorem Fam.later {B : Nat} {w0 w w' : World} {v : Value} {all : List (List Str)} (h : Fam B w0 w v all) (hb : Below w.heap.size w w') : Fam B w0 w' v all := by
  obtain ⟨vals, h1, h2, h3⟩ := h
  exact ⟨vals, h1, h2.later hb, fun i hi => (h3 i hi).later hb⟩
theorem Fam.bel {B : Nat} {w0 w : World} {v : Value} {all : List (List Str)} (h : Fam B w0 w v all) : Below B w0 w := by
  obtain ⟨_, _, h2, _⟩ := h; exact h2.bel
/-- One set of them. -/
theorem Fam.get {B : Nat} {w0 w : World} {ao : Option Addr} {n cap : Nat} {all : List (List Str)} (h : Fam B w0 w (.slice ao n cap) all) {i : Nat} (hi : i < all.length) :
    n = all.length ∧ ∃ g xo xc, ao = some ⟨g, 0, none⟩ ∧ w.cell? ⟨g, i, none⟩ = some (.slice xo (all.getD i []).length xc) ∧ Rd w (.slice xo (all.getD i []).length xc) (ss (all.getD i [])) := by
  obtain ⟨vals, h1, h2, h3⟩ := h
  obtain ⟨xo, xc, e, h4, _⟩ := h3 i hi
  have hiv : i < vals.length := by omega
  rw [e] at h4
  rcases h2.own.2 with ⟨_, h5⟩ | ⟨g, c, cur, hv, _⟩
  · omega
  · simp only [Value.slice.injEq] at hv
    obtain ⟨rfl, rfl, rfl⟩ := hv
    have hc := h2.own.cells (g := g) rfl i (vals.getD i (.slice none 0 0)) (by simp [List.getD, hiv])
    rw [Addr.add_mid, Nat.zero_add, e] at hc
    exact ⟨h1, g, xo, xc, rfl, hc, h4⟩

set_option maxHeartbeats 800000 in
/-- append of one more set. -/
theorem wpList_fam {ops : Array Oper} {rest : List Oper} {o : Oper} {a : Act} {w : World} {Q : Exit → Act → World → Prop} (hgd : o.guard = none) (s x : Operand)
    (ho : o.op = .call { callee := .builtin .append, args := #[s, x], argTypes := #[35, 35] })
    {B : Nat} {w0 : World} {v : Value} {all : List (List Str)} (hv : a.eval s = v) (H : Fam B w0 w v all) {g : Nat} {u : Value} {T : List Str} (hx : a.eval x = .slice (some ⟨g, 0, none⟩) 1 1) (hc : w.cell? ⟨g, 0, none⟩ = some u) (hu : RdX w v.ownBlock u T) (hl : all.length ≤ 1000000)
    (h : ∀ (ao : Option Addr) (cap : Nat) (w' : World), Fam B w0 w' (.slice ao (all.length + 1) cap) (all ++ [T]) → wpList Try.prog ops Q rest (a.put o.dst (.slice ao (all.length + 1) cap)) w') :
    wpList Try.prog ops Q (o :: rest) a w := by
  obtain ⟨vals, hlen, how, hr⟩ := H
  obtain ⟨i0, hi, hz0, hz1, hz2⟩ := info_parts famE.info
  have hlv : vals.length ≤ 1000000 := by omega
  refine wpList_append_own_at w hgd s x 35 ho B 24 i0 _ 1 24 famE.und hi hz0 hz1 hz2 famE.one (by decide) v vals.length vals hv how.own ⟨g, 0, none⟩ 1 1 [u] hx rfl ?_ ?_ (by unfold maxLen; omega) (by omega) how.size ?_
  · intro j y hy
    cases j with
    | zero => simp at hy; subst hy; rw [Addr.add_mid]; exact hc
    | succ j => simp at hy
  · intro y hy
    rw [List.mem_singleton.1 hy]
    obtain ⟨ao, cap, rfl, _⟩ := hu
    rfl
  · intro v2 w2 hown hgrow _ hat
    have H2 := how.app hown rfl hgrow
    obtain ⟨ao, cap, rfl⟩ := own_shape hown
    rw [hlen] at H2 hat ⊢
    refine h ao cap w2 ⟨vals ++ [u], by simp [hlen], H2, fun i hi => ?_⟩
    rw [List.length_append, List.length_singleton] at hi
    by_cases e : i < all.length
    · have q := (hr i e).grown hgrow hat
      have e1 : (vals ++ [u]).getD i (.slice none 0 0) = vals.getD i (.slice none 0 0) := by simp [List.getD, List.getElem?_append_left (show i < vals.length by omega)]
      have e2 : (all ++ [T]).getD i [] = all.getD i [] := by simp [List.getD, List.getElem?_append_left e]
      rw [e1, e2]; exact q
    · have e3 : i = all.length := by omega
      have q := hu.grown hgrow hat
      have e1 : (vals ++ [u]).getD i (.slice none 0 0) = u := by rw [e3, ← hlen]; simp [List.getD]
      have e2 : (all ++ [T]).getD i [] = T := by rw [e3]; simp [List.getD]
      rw [e1, e2]; exact q

/-- The last element of a list that reads. -/
theorem abv_at {x : Str} {T : List Str} {j : Nat} (h : j + 1 = T.length) : abv x T = decide (T[j] < x) := by
  obtain ⟨T', y, rfl⟩ : ∃ T' y, T = T' ++ [y] := ⟨T.dropLast, T.getLast (fun e => by rw [e] at h; simp at h), (List.dropLast_concat_getLast _).symm⟩
  rw [List.length_append, List.length_singleton] at h
  have hj : j = T'.length := by omega
  subst hj
  rw [abv_snoc]
  simp
set_option maxRecDepth 100000 in
theorem above_any (ao : Option Addr) (n cap : Nat) (T : List Str) (x : Str) (w : World) (R : Rd w (.slice ao n cap) (ss T)) (hl : T.length ≤ 1000000) :
    Calls Try.prog 45 #[.string (ba x), .slice ao n cap] w fun e w' => e = .returned (.bool (abv x T)) ∧ w = w' := by
  obtain ⟨hn, h1, h2, h3⟩ := rds_open R
  obtain ⟨r, hr⟩ : ∃ r, r = abv x T := ⟨_, rfl⟩
  rw [← hr]
  have HR := hid_of hr
  obtain ⟨bx, hbx⟩ : ∃ b, b = ba x := ⟨_, rfl⟩
  rw [← hbx]
  by_cases h0 : n = 0
  · have HT : Hid (r = true) := hid_of (by rw [hr, List.eq_nil_of_length_eq_zero (by omega : T.length = 0)]; rfl)
    subst h0
    clear R hn h3 hbx hr
    go_enter Try.func45, Try.ntmps45
    go_wp2
    go_ret
    exact ⟨by rw [HT.out] <;> rfl, rfl⟩
  · obtain ⟨g, o, rfl, hg, hc⟩ := h3.resolve_left (fun e => by rw [e] at hn; simp at hn; omega)
    obtain ⟨j, hj⟩ : ∃ j, j + 1 = n := ⟨n - 1, by omega⟩
    have hjT : j < T.length := by omega
    have c1 := hc j _ (List.getElem?_eq_getElem hjT)
    obtain ⟨by_, hby⟩ : ∃ b, b = ba (T[j]'hjT) := ⟨_, rfl⟩
    rw [← hby] at c1
    have hab := abv_at (x := x) (T := T) (show j + 1 = T.length by omega)
    have t0 : ((n : Int) == 0) = false := by simp; omega
    have t0' : (n == 0) = false := by simp; omega
    have s1 : IntKind.i64.wrap ((n : Int) - 1) = (j : Int) := by rw [IntWalk.i64_in _ (by omega)]; omega
    have hjn : (j : Int) < (n : Int) := by omega
    have hj0 : (0 : Int) ≤ (j : Int) := by omega
    have t1 : Op.bytesLess by_.toList bx.toList = r := by
      by_cases e : T[j]'hjT < x
      · rw [lt_t hby hbx e, hr, hab, decide_eq_true e]
      · rw [lt_f hby hbx e, hr, hab, decide_eq_false e]
    clear R hn h3 hbx hr hby hab hc hj
    go_enter Try.func45, Try.ntmps45
    go_wp2
    go_ret
    exact ⟨rfl, rfl⟩
end Go.Proofs.Ytpbjnbceloibnaa
