/- A row of numbers that the call makes and writes, as a function; what the law of Sort asks of the order. Bounds on sizes alone. -/
import Derived.Test.YtjfjcgbdpjpodaaDoorOrdSom
import Derived.Test.YtjfjcgbdpjpodaaDoorOrdLaw2
namespace Go.Proofs.YtjfjcgbdpjpodaaDoor
open Go.RowKit

def fs (n : Nat) (f : Nat → Int) : List Value := (List.range n).map fun x => .int .i64 (f x)
theorem fs_get {n : Nat} (f : Nat → Int) {x : Nat} (h : x < n) : (fs n f)[x]? = some (.int .i64 (f x)) := by simp [fs, h]
theorem fs_set {n : Nat} (f : Nat → Int) (i : Nat) (v : Int) : (fs n f).set i (.int .i64 v) = fs n (fun x => if x = i then v else f x) := by
  unfold fs
  apply List.ext_getElem?
  intro j
  rw [List.getElem?_set]
  by_cases hj : j < n
  · by_cases e : i = j
    · subst e; simp [hj]
    · simp [hj, e, Ne.symm e]
  · by_cases e : i = j
    · subst e; rw [if_pos rfl, if_neg (by simpa using hj), List.getElem?_eq_none (by simp; omega)]
    · rw [if_neg e, List.getElem?_eq_none (by simp; omega), List.getElem?_eq_none (by simp; omega)]
theorem fs_congr {n : Nat} {f f' : Nat → Int} (h : ∀ x, x < n → f x = f' x) : fs n f = fs n f' := by
  unfold fs
  exact List.map_congr_left fun x hx => by rw [h x (by simpa using hx)]
/-- The row of n numbers f in block g, made since w0. -/
structure AT (w0 W : World) (g n : Nat) (f : Nat → Int) : Prop where
  bel : Below w0.heap.size w0 W
  lo : w0.heap.size ≤ g
  blk : W.heap[g]? = some (.cells (fs n f).toArray 3 (0, 0))
section
variable {w0 W W' : World} {g n : Nat} {f f' : Nat → Int}
theorem AT.cell (h : AT w0 W g n f) {x : Nat} (hx : x < n) : W.cell? ⟨g, x, none⟩ = some (.int .i64 (f x)) := blk_cell h.blk (fs_get f hx)
theorem AT.free (h : AT w0 W g n f) (x : Nat) : W.frozen? ⟨g, x, none⟩ = false := blk_free h.blk x
theorem AT.drew (h : AT w0 W g n f) : AT w0 W.drew g n f := ⟨h.bel.drew, h.lo, h.blk⟩
theorem AT.drewN (h : AT w0 W g n f) (k : Nat) : AT w0 (W.drewN k) g n f := ⟨bel_drewN h.bel k, h.lo, h.blk⟩
theorem AT.at (h : AT w0 W g n f) (hb : Below W.heap.size W W') : AT w0 W' g n f := ⟨h.bel.trans (hb.mono h.bel.size), h.lo, (hb.block g (lt_of_block h.blk)).trans h.blk⟩
theorem AT.congr (h : AT w0 W g n f) (he : ∀ x, x < n → f x = f' x) : AT w0 W g n f' := ⟨h.bel, h.lo, by rw [← fs_congr he]; exact h.blk⟩
theorem AT.set (h : AT w0 W g n f) (i : Nat) (v : Int) : AT w0 (W.setCell ⟨g, i, none⟩ (.int .i64 v)) g n (fun x => if x = i then v else f x) := by
  refine ⟨⟨h.bel.os, h.bel.tape, h.bel.output, by simpa using h.bel.size, fun k hk => ?_⟩, h.lo, ?_⟩
  · rw [Below.heap_setCell _ _ _ _ (by show k ≠ g; have := h.lo; omega)]
    exact h.bel.block k hk
  · have := blk_setCell (k := i) (u := .int .i64 v) h.blk
    rw [fs_set] at this
    exact this
theorem at_made {w w1 : World} (hb : Below w.heap.size w w1) (h : w1.heap[w.heap.size]? = some (.cells (List.replicate n (Value.int .i64 0)).toArray 3 (0, 0))) : AT w w1 w.heap.size n (fun _ => 0) :=
  ⟨hb, Nat.le_refl _, by rw [h, show List.replicate n (Value.int .i64 0) = fs n (fun _ => 0) by unfold fs; apply List.ext_getElem? ; intro j; by_cases hj : j < n <;> simp [hj]]⟩
end

theorem nodup_len : ∀ (n : Nat) (L : List Nat), L.Nodup → (∀ x ∈ L, x < n) → L.length ≤ n
  | 0, L, _, h => by
    cases L with
    | nil => simp
    | cons a r => have := h a (by simp); omega
  | n + 1, L, hd, h => by
    have := nodup_len n (L.erase n) (hd.erase n) (fun x hx => by
      have h1 := (hd.mem_erase_iff).1 hx
      have := h x h1.2
      omega)
    rw [List.length_erase] at this
    split at this <;> omega
theorem all_in {n : Nat} {L : List Nat} (hd : L.Nodup) (h : ∀ x ∈ L, x < n) (hl : L.length = n) {x : Nat} (hx : x < n) : x ∈ L := by
  apply Classical.byContradiction
  intro hc
  have := nodup_len n (x :: L) (List.nodup_cons.2 ⟨hc, hd⟩) (fun y hy => by
    rcases List.mem_cons.1 hy with rfl | hy
    · exact hx
    · exact h y hy)
  simp at this
  omega
theorem take_mem {s : List Nat} {i : Nat} {x : Nat} (h : x ∈ s.take i) : ∃ k, k < i ∧ s[k]? = some x := by
  obtain ⟨k, hk⟩ := List.getElem?_of_mem h
  have h1 := (List.getElem?_eq_some_iff.1 hk).1
  simp at h1
  exact ⟨k, by omega, by rw [List.getElem?_take_of_lt (by omega)] at hk; exact hk⟩
theorem mem_take {s : List Nat} {i k : Nat} {x : Nat} (h : s[k]? = some x) (hk : k < i) : x ∈ s.take i := List.mem_of_getElem? (i := k) (by rw [List.getElem?_take_of_lt hk]; exact h)
theorem nodup_ne {s : List Nat} (h : s.Nodup) {i k x : Nat} (h1 : s[i]? = some x) (h2 : s[k]? = some x) : i = k := by
  obtain ⟨a1, a2⟩ := List.getElem?_eq_some_iff.1 h1
  obtain ⟨b1, b2⟩ := List.getElem?_eq_some_iff.1 h2
  exact (List.getElem_inj h).1 (a2.trans b2.symm)
/-- What the places of the first i elements are, and -1 for the others. -/
structure Pl (s : List Nat) (i : Nat) (f : Nat → Int) : Prop where
  at_ : ∀ k e, k < i → s[k]? = some e → f e = k
  out : ∀ e, e ∉ s.take i → f e = -1
theorem Pl.next {s : List Nat} {i e : Nat} {f : Nat → Int} (h : Pl s i f) (hd : s.Nodup) (he : s[i]? = some e) : Pl s (i + 1) (fun x => if x = e then (i : Int) else f x) := by
  refine ⟨fun k x hk hx => ?_, fun x hx => ?_⟩
  · by_cases hxe : x = e
    · subst hxe
      rw [if_pos rfl, nodup_ne hd he hx]
    · rw [if_neg hxe]
      have : k ≠ i := by intro h1; subst h1; exact hxe (Option.some.inj (hx.symm.trans he))
      exact h.at_ k x (by omega) hx
  · have hxe : x ≠ e := by rintro rfl; exact hx (mem_take he (by omega))
    rw [if_neg hxe]
    refine h.out x fun h1 => hx ?_
    obtain ⟨k, hk, h2⟩ := take_mem h1
    exact mem_take h2 (by omega)
theorem Pl.fresh {s : List Nat} {i e : Nat} {f : Nat → Int} (h : Pl s i f) (hd : s.Nodup) (he : s[i]? = some e) : f e = -1 := by
  refine h.out e fun h1 => ?_
  obtain ⟨k, hk, h2⟩ := take_mem h1
  have := nodup_ne hd he h2
  omega
/-- What the law of Sort asks, of a list. -/
structure SrtOk (n : Nat) (ps : List Tk) (s : List Nat) : Prop where
  len : s.length = n
  nd : s.Nodup
  lt : ∀ x ∈ s, x < n
  pair : ∀ x y : Nat, ((x : Int), (y : Int)) ∈ ps → ∃ i j : Nat, i < j ∧ s[i]? = some x ∧ s[j]? = some y
  wait : ∀ i e x : Nat, s[i]? = some e → x < e → x ∈ s.take i ∨ ∃ z : Nat, ((z : Int), (x : Int)) ∈ ps ∧ ∃ k : Nat, i ≤ k ∧ s[k]? = some z
theorem srt_ok {n : Nat} (hn : n ≤ 64) {ps : List Tk} (h : valid n ps = true) (hc : acyc n (clo n ps) = true) : SrtOk n ps (srtL n ps) := by
  have hso := so_clo hn h hc
  obtain ⟨h1, h2, h3, h4⟩ := srt_spec hn hso (s := srtL n ps) rfl
  generalize srtL n ps = s at *
  refine ⟨h1, h2, h3, fun x y hp => ?_, fun i e x he hx => ?_⟩
  · have hr : bm (clo n ps) x y = true := clo_pair hn h hp
    obtain ⟨j, hj⟩ := List.getElem?_of_mem (all_in h2 h3 h1 (hso.lt x y hr).2)
    obtain ⟨i, hi, hi2⟩ := take_mem ((h4 j y hj).1 x hr)
    exact ⟨i, j, hi, hi2, hj⟩
  · by_cases hxt : x ∈ s.take i
    · exact .inl hxt
    · obtain ⟨j, hj, hjt⟩ := (h4 i e he).2 x hx hxt
      obtain ⟨z, hz, hjz⟩ := clo_last hn h hj
      have hr : bm (clo n ps) z x = true := clo_pair hn h hz
      obtain ⟨k, hk⟩ := List.getElem?_of_mem (all_in h2 h3 h1 (hso.lt z x hr).1)
      refine .inr ⟨z, hz, k, ?_, hk⟩
      apply Nat.le_of_not_lt
      intro hki
      rcases hjz with rfl | hjz
      · exact hjt (mem_take hk hki)
      · obtain ⟨k2, hk2, hk3⟩ := take_mem ((h4 k z hk).1 j hjz)
        exact hjt (mem_take hk3 (by omega))
theorem err_acyc {n : Nat} {ps : List Tk} (h : errE n ps = 0) : acyc n (clo n ps) = true := by
  rcases err_cases n ps with ⟨h1, h2⟩ | ⟨_, _, h3⟩ | ⟨_, h2, _⟩
  · exact absurd (h2.symm.trans h) h1
  · rw [h3] at h; cases h
  · exact h2
theorem chk_len {n : Int} {ps : List Tk} (h : chkE n ps = 0) : ps.length ≤ 4096 := by
  unfold chkE at h
  split at h
  · cases h
  · split at h
    · cases h
    · omega
end Go.Proofs.YtjfjcgbdpjpodaaDoor
