/- Texts in one: JrM, JrN, JrO, JrP, JrQ, JrT, JrL6. -/
import Derived.Test.YtofmijebinnejaaMgRE
import Derived.Deep.RegionHeld3
import Derived.Deep.RegionLaw
set_option linter.unusedVariables false
set_option linter.unusedSimpArgs false
/- The reference's raw: a number at a place. Bounds on sizes alone. -/
namespace Go.Proofs.Ytofmijebinnejaa
open Go.RowKit
set_option maxRecDepth 100000

theorem bs_cells (l : List Int) : ∀ u ∈ Wr.bs l, u.oneCell' = true := by8_cells l
theorem bs_len (l : List Int) : (Wr.bs l).length = l.length := by simp [Wr.bs]
def rawRes (a : Nat) : Option (Nat × Nat) → Value
  | some (n, k) => .tuple #[.int .u64 n, .int .i64 ((a + k : Nat) : Int), .bool true]
  | none => .tuple #[.int .u64 0, .int .i64 a, .bool false]
theorem pow27r (i : Nat) : (2 : Int) ^ (7 * i) = ((128 ^ i : Nat) : Int) := by
  rw [Int.pow_mul]
  push_cast
  rfl
theorem grp_raw (acc z i : Nat) (hi : i ≤ 8 ∨ i = 9 ∧ z ≤ 1) (ha : acc < 128 ^ i) : IntKind.u64.wrap ((acc : Int) + IntKind.u64.wrap ((z : Int) % 128 * 2 ^ (7 * i))) = ((acc + z % 128 * 128 ^ i : Nat) : Int) ∧ (i ≤ 8 → acc + z % 128 * 128 ^ i < 128 ^ (i + 1)) := by
  rw [pow27r]
  have e : (z : Int) % 128 * ((128 ^ i : Nat) : Int) = ((z % 128 * 128 ^ i : Nat) : Int) := by push_cast; rfl
  rw [e, IntKind.wrap_u64, IntKind.wrap_u64]
  rcases hi with hi | ⟨rfl, hz⟩
  · have h1 := Wr.pow_le9 i (by omega)
    have h2 : z % 128 * 128 ^ i + 128 ^ i ≤ 128 ^ (i + 1) := by
      rw [Nat.pow_succ, ← Nat.succ_mul, Nat.mul_comm (128 ^ i)]
      exact Nat.mul_le_mul_right _ (by omega)
    exact ⟨by omega, fun _ => by omega⟩
  · have h9 : (128 : Nat) ^ 9 = 9223372036854775808 := by decide
    rw [h9] at ha ⊢
    exact ⟨by omega, fun h => by omega⟩
theorem raw_step {d : List Int} {i acc j z : Nat} (hi : i < 10) (hz : d[j]? = some (z : Int)) : Wr.decAt (10 - i) i acc (d.drop j) = if 128 ≤ (z : Int) then Wr.decAt (10 - (i + 1)) (i + 1) (acc + ((z : Int) - 128).toNat * 128 ^ i) (d.drop (j + 1)) else if Wr.mayEnd i z then some (acc + (z : Int).toNat * 128 ^ i, i + 1) else none := by
  obtain ⟨hj, e⟩ := List.getElem?_eq_some_iff.1 hz
  rw [List.drop_eq_getElem_cons hj, e, show 10 - i = (10 - (i + 1)) + 1 by omega]
  rfl
theorem ret_raw {n m : Int} {k j : Int} (h1 : n = m) (h2 : k = j) : Ending.returned (.tuple #[.int .u64 n, .int .i64 k, .bool true]) = Ending.returned (.tuple #[.int .u64 m, .int .i64 j, .bool true]) := by rw [h1, h2]
theorem bs_open {w : World} {ao : Option Addr} {n cap : Nat} {d : List Int} (h : Rd w (.slice ao n cap) (Wr.bs d)) : d.length = n ∧ n ≤ cap ∧ (0 < n → ∃ g o, ao = some ⟨g, o, none⟩ ∧ g < w.heap.size ∧ ∀ j y, d[j]? = some y → w.cell? ⟨g, o + j, none⟩ = some (.int .u8 y)) := by
  obtain ⟨ao', cap', e, h2, h3, h4⟩ := h
  simp only [Value.slice.injEq] at e
  obtain ⟨rfl, e2, rfl⟩ := e
  rw [bs_len] at e2 h2 h4
  subst e2
  refine ⟨rfl, h2, fun h0 => ?_⟩
  obtain ⟨g, o, r1, r2, r3⟩ := h4 h0
  exact ⟨g, o, r1, r2, fun j y hy => r3 j _ (by simp [Wr.bs, hy])⟩
set_option maxHeartbeats 3200000 in
theorem raw_any (ao : Option Addr) (n cap : Nat) (d : List Int) (a : Nat) (w : World) (h : Rd w (.slice ao n cap) (Wr.bs d)) (hr : ∀ y ∈ d, 0 ≤ y ∧ y ≤ 255) (hn : n ≤ 140737488351232) (ha : a ≤ n) :
    Calls Try.prog 69 #[.slice ao n cap, .int .i64 a] w fun e w' => e = .returned (rawRes a (Wr.dec (d.drop a))) ∧ Below w.heap.size w w' := by
  obtain ⟨R, hR⟩ : ∃ R, R = Wr.dec (d.drop a) := ⟨_, rfl⟩
  rw [← hR]
  have HR := hid_of hR
  obtain ⟨hdl, hcap, hop⟩ := bs_open h
  have HD := hid_of hop
  have HRR := hid_of hr
  have HN := hid_of hdl
  clear h hr hR hdl hop
  go_enter Try.func69, Try.ntmps69
  go_wp2
  go_loopw [4, 5, 6, 7, 8] (fun nv ev kv iv xv wr => ∃ (i acc : Nat) (e5 e6 x8 : Value), ev = e5 ∧ kv = e6 ∧ xv = x8 ∧ i ≤ 10 ∧ iv = .int .i64 i ∧ nv = .int .u64 acc ∧ a + i ≤ n ∧ Hid ((i ≤ 9 → acc < 128 ^ i) ∧ R = Wr.decAt (10 - i) i acc (d.drop (a + i))) ∧ Hid (Below w.heap.size w wr)) (fun _ _ _ iv _ _ => 10 - (intOf iv).toNat)
  case atStart => exact ⟨0, 0, _, _, _, rfl, rfl, rfl, by omega, rfl, rfl, ha, hid_of ⟨fun _ => by simp, HR.out⟩, hid_of (Below.refl _ _)⟩
  case round =>
    obtain ⟨i, acc, e5, e6, x8, rfl, rfl, rfl, hi, rfl, rfl, hai, hp, hb⟩ := hrel
    have HP := hid_of hp.out
    have HB := hid_of hb.out
    clear hp hb
    have aw : IntKind.i64.wrap ((a : Int) + (i : Int)) = (a : Int) + (i : Int) := IntWalk.i64_in _ (by omega)
    by_cases h8 : i < 10
    · by_cases hlt : a + i < n
      · obtain ⟨g, o, rfl, hg, hc⟩ := HD.out (by omega)
        obtain ⟨y, hy⟩ : ∃ y, d[a + i]? = some y := ⟨_, List.getElem?_eq_getElem (by have := HN.out; omega)⟩
        have c1 := (HB.out.cell (p := ⟨g, o + (a + i), none⟩) hg).trans (hc (a + i) y hy)
        have hyr := HRR.out y (List.mem_of_getElem? hy)
        obtain ⟨z, rfl⟩ : ∃ z : Nat, y = z := ⟨y.toNat, by omega⟩
        have b1 : (a : Int) + (i : Int) < (n : Int) := by omega
        have b0 : (0 : Int) ≤ (a : Int) + (i : Int) := by omega
        have db1 : decide ((a : Int) + (i : Int) < (n : Int)) = true := by simp; omega
        have hz : z ≤ 255 := by omega
        have ST := hid_of (HP.out.2.trans (raw_step h8 hy))
        by_cases h9 : i = 9 ∧ 1 < z
        · have d9 : ((i : Int) == 9) = true := by simp; omega
          have d91 : decide ((z : Int) > 1) = true := by simp; omega
          have HE : Hid (R = none) := hid_of (by
            rw [ST.out]
            obtain ⟨rfl, hz1⟩ := h9
            split
            · rfl
            · rw [if_neg (by unfold Wr.mayEnd; simp; omega)])
          clear hc hy h9
          go_wp2
          refine bodyPost_ret (results_tmp3 rfl _ _ _) rfl ⟨by rw [HE.out]; rfl, HB.out⟩
        · obtain ⟨nv, hnv⟩ : ∃ nv, nv = acc + z % 128 * 128 ^ i := ⟨_, rfl⟩
          have GV := grp_raw acc z i (by omega) (HP.out.1 (by omega))
          rw [← hnv] at GV
          obtain ⟨av, hlt2⟩ := GV
          have NV := hid_of hnv
          have HL2 := hid_of hlt2
          have d9 : (((i : Int) == 9) = false) ∨ (((i : Int) == 9) = true ∧ decide ((z : Int) > 1) = false) := by
            by_cases h : i = 9
            · exact .inr ⟨by simp; omega, by simp; omega⟩
            · exact .inl (by simp; omega)
          clear hc hnv hlt2 hy
          by_cases hz1 : z < 128
          · have dz : decide ((z : Int) < 128) = true := by simp; omega
            have EV : Hid (nv = acc + (z : Int).toNat * 128 ^ i) := hid_of (by rw [NV.out, Nat.mod_eq_of_lt hz1]; rfl)
            have hcase : (i = 0) ∨ (0 < i ∧ z = 0) ∨ (0 < i ∧ z ≠ 0) := by omega
            rcases hcase with hi0 | ⟨hi0, hz0⟩ | ⟨hi0, hz0⟩
            · have HE : Hid (R = some (nv, i + 1)) := hid_of (by
                rw [ST.out, if_neg (by omega), if_pos (by unfold Wr.mayEnd; simp [hi0]), EV.out])
              have di : decide (0 < i) = false := by simp; omega
              clear hi0
              rcases d9 with d9 | ⟨d9, d91⟩
              all_goals
                go_wp2
                all_goals refine bodyPost_ret (results_tmp3 rfl _ _ _) rfl ⟨by rw [HE.out]; exact ret_raw rfl (by push_cast; omega), HB.out⟩
            · have HE : Hid (R = none) := hid_of (by
                rw [ST.out, if_neg (by omega), if_neg (by unfold Wr.mayEnd; simp [hz0]; omega)])
              have di : decide (0 < i) = true := by simp; omega
              have dz0 : ((z : Int) == 0) = true := by simp; omega
              clear hz0
              rcases d9 with d9 | ⟨d9, d91⟩
              all_goals
                go_wp2
                all_goals refine bodyPost_ret (results_tmp3 rfl _ _ _) rfl ⟨by rw [HE.out]; rfl, HB.out⟩
            · have HE : Hid (R = some (nv, i + 1)) := hid_of (by
                rw [ST.out, if_neg (by omega), if_pos (by unfold Wr.mayEnd; simp [hz0]; omega), EV.out])
              have di : decide (0 < i) = true := by simp; omega
              have dz0 : ((z : Int) == 0) = false := by simp; omega
              clear hz0
              rcases d9 with d9 | ⟨d9, d91⟩
              all_goals
                go_wp2
                all_goals refine bodyPost_ret (results_tmp3 rfl _ _ _) rfl ⟨by rw [HE.out]; exact ret_raw rfl (by push_cast; omega), HB.out⟩
          · have dz : decide ((z : Int) < 128) = false := by simp; omega
            have d9' : ((i : Int) == 9) = false := by simp; omega
            have HE : Hid (R = Wr.decAt (10 - (i + 1)) (i + 1) nv (d.drop (a + (i + 1)))) := hid_of (by
              rw [ST.out, if_pos (by omega), NV.out, show ((z : Int) - 128).toNat = z % 128 by omega]
              rfl)
            have hi8 : i ≤ 8 := by omega
            clear hz1 d9
            go_wp2
            go_roundw
            case rel => exact ⟨i + 1, nv, _, _, _, rfl, rfl, rfl, by omega, by go_num, rfl, by omega, hid_of ⟨fun _ => HL2.out hi8, HE.out⟩, HB⟩
            case measure => simp [intOf]; omega
      · have hEq : a + i = n := by omega
        have HE : Hid (R = none) := hid_of (by
          rw [HP.out.2, List.drop_of_length_le (by have := HN.out; omega), show 10 - i = (9 - i) + 1 by omega]
          rfl)
        have b1 : ¬ (a : Int) + (i : Int) < (n : Int) := by omega
        have db : decide ((a : Int) + (i : Int) < (n : Int)) = false := by simp; omega
        go_wp2
        refine bodyPost_ret (results_tmp3 rfl _ _ _) rfl ⟨by rw [HE.out]; rfl, HB.out⟩
    · obtain rfl : i = 10 := by omega
      have HE : Hid (R = none) := hid_of (by rw [HP.out.2]; rfl)
      go_wp2
      refine bodyPost_ret (results_tmp3 rfl _ _ _) rfl ⟨by rw [HE.out]; rfl, HB.out⟩
end Go.Proofs.Ytofmijebinnejaa

/- The reference's In, at an offset or bad: every read as a function of this state, the program's own. Bounds on sizes alone. -/
namespace Go.Proofs.Ytofmijebinnejaa
open Go.RowKit
set_option maxRecDepth 100000
set_option maxHeartbeats 3200000

theorem undrew {w w' : World} (h : Below w.drew.heap.size w.drew w') : Below w.heap.size w w' := ⟨h.os, h.tape, h.output, h.size, h.block⟩
/-- The In in block b over a slice that reads as d. -/
structure Ib (w : World) (b : Nat) (ao : Option Addr) (n cap : Nat) (d : List Int) (v1 v2 v3 : Value) : Prop where
  blk : w.heap[b]? = some (.cells [.slice ao n cap, v1, v2, v3].toArray 85 (0, 0))
  rd : Rd w (.slice ao n cap) (Wr.bs d)
  ne : 0 < d.length → In (fun k => k < b) (.slice ao n cap)
  rng : ∀ y ∈ d, 0 ≤ y ∧ y ≤ 255
  small : n ≤ 140737488351232
section
variable {w w2 : World} {b : Nat} {ao : Option Addr} {n cap : Nat} {d : List Int} {v1 v2 v3 : Value}
theorem Ib.bel (h : Ib w b ao n cap d v1 v2 v3) (hb : Below w.heap.size w w2) : Ib w2 b ao n cap d v1 v2 v3 :=
  ⟨(hb.block _ (lt_of_block h.blk)).trans h.blk, h.rd.at hb, h.ne, h.rng, h.small⟩
theorem rd_keepB {v : Value} {l : List Value} (h : Rd w v l) (hB : 0 < l.length → In (fun k => k ≠ b) v) (hs : w.heap.size ≤ w2.heap.size) (hk : ∀ k, k ≠ b → k < w.heap.size → w2.heap[k]? = w.heap[k]?) : Rd w2 v l := by
  obtain ⟨ao, cap, e, h2, h3, h4⟩ := h
  refine ⟨ao, cap, e, h2, h3, fun h0 => ?_⟩
  obtain ⟨g, o, rfl, hg, hc⟩ := h4 h0
  have hb := hk g (hB h0 _ _ _ e) hg
  exact ⟨g, o, rfl, by omega, fun i t ht => (World.cell?_of_block (w := w) hb).trans (hc i t ht)⟩
theorem Ib.set (h : Ib w b ao n cap d v1 v2 v3) (j : Nat) (v : Value) {y1 y2 y3 : Value} (e : [.slice ao n cap, v1, v2, v3].set j v = [.slice ao n cap, y1, y2, y3]) : Ib (w.setCell ⟨b, j, none⟩ v) b ao n cap d y1 y2 y3 :=
  ⟨by rw [← e]; exact Go.Proofs.Ytofmijebinnejaa.blk_setCell (k := j) h.blk, rd_keepB h.rd (fun h0 a n c e => Nat.ne_of_lt (h.ne (by simpa [Wr.bs] using h0) a n c e)) (by simp) (fun k hk _ => set_blk (fun e => hk e.symm)), h.ne, h.rng, h.small⟩
theorem Ib.up {B : Nat} (h : Ib w b ao n cap d v1 v2 v3) (hb : Below B w w2) (hB : b < B) : Ib w2 b ao n cap d v1 v2 v3 := by
  refine ⟨(hb.block _ hB).trans h.blk, ?_, h.ne, h.rng, h.small⟩
  obtain ⟨a0, c0, e, h2, h3, h4⟩ := h.rd
  refine ⟨a0, c0, e, h2, h3, fun h0 => ?_⟩
  obtain ⟨g, o, rfl, hg, hc⟩ := h4 h0
  have hb2 := hb.block g (by have := h.ne (by simpa [Wr.bs] using h0) _ _ _ e; simp only at this; omega)
  have := hb.size
  exact ⟨g, o, rfl, by omega, fun i t ht => (World.cell?_of_block (w := w) hb2).trans (hc i t ht)⟩
theorem Ib.cells (h : Ib w b ao n cap d v1 v2 v3) : w.cell? ⟨b, 0, none⟩ = some (.slice ao n cap) ∧ w.cell? ⟨b, 1, none⟩ = some v1 ∧ w.cell? ⟨b, 2, none⟩ = some v2 ∧ w.cell? ⟨b, 3, none⟩ = some v3 :=
  ⟨cell_blk h.blk rfl, cell_blk h.blk rfl, cell_blk h.blk rfl, cell_blk h.blk rfl⟩
theorem Ib.free (h : Ib w b ao n cap d v1 v2 v3) (j : Nat) : w.frozen? ⟨b, j, none⟩ = false := fr_blk h.blk j
theorem kept_set (w : World) (b j : Nat) (v : Value) : Wr.Kept (fun k => k = b) w (w.setCell ⟨b, j, none⟩ v) := Wr.Kept.setCell (S := fun k => k = b) (Wr.Kept.refl _ _) (p := ⟨b, j, none⟩) rfl v
theorem kept_trans {S : Nat → Prop} {a c e : World} (h : Wr.Kept S a c) (k : Wr.Kept S c e) : Wr.Kept S a e :=
  ⟨k.os.trans h.os, k.tape.trans h.tape, k.output.trans h.output, Nat.le_trans h.size k.size, fun x hx hn => (k.block x (Nat.lt_of_lt_of_le hx h.size) hn).trans (h.block x hx hn)⟩
theorem kept_bel {S : Nat → Prop} {a c : World} (h : Below a.heap.size a c) : Wr.Kept S a c := ⟨h.os, h.tape, h.output, h.size, fun x hx _ => h.block x hx⟩
end
/-- The In in block b: at an offset, or bad. -/
def IS (w : World) (b : Nat) (ao : Option Addr) (n cap : Nat) (d : List Int) : Option Nat → Prop
  | some off => ∃ last : Int, off ≤ n ∧ Ib w b ao n cap d (.int .i64 off) (.int .i64 last) (.bool false)
  | none => ∃ v1 v2 : Int, Ib w b ao n cap d (.int .i64 v1) (.int .i64 v2) (.bool true)
theorem IS.up {w w2 : World} {b : Nat} {ao : Option Addr} {n cap : Nat} {d : List Int} {s : Option Nat} {B : Nat} (h : IS w b ao n cap d s) (hb : Below B w w2) (hB : b < B) : IS w2 b ao n cap d s := by
  cases s with
  | none => obtain ⟨x1, x2, h⟩ := h; exact ⟨x1, x2, h.up hb hB⟩
  | some off => obtain ⟨x, ho, h⟩ := h; exact ⟨x, ho, h.up hb hB⟩
theorem IS.bad {w : World} {b : Nat} {ao : Option Addr} {n cap : Nat} {d : List Int} {s : Option Nat} (h : IS w b ao n cap d s) : w.cell? ⟨b, 3, none⟩ = some (.bool s.isNone) ∧ b < w.heap.size ∧ n ≤ 140737488351232 ∧ d.length = n := by
  cases s with
  | none => obtain ⟨x1, x2, h⟩ := h; exact ⟨h.cells.2.2.2, lt_of_block h.blk, h.small, (bs_open h.rd).1⟩
  | some off => obtain ⟨x, ho, h⟩ := h; exact ⟨h.cells.2.2.2, lt_of_block h.blk, h.small, (bs_open h.rd).1⟩
/-- A step of the In. -/
def IT (w w' : World) (b : Nat) (ao : Option Addr) (n cap : Nat) (d : List Int) (s : Option Nat) : Prop := IS w' b ao n cap d s ∧ Wr.Kept (fun k => k = b) w w'
theorem dec_le {d : List Int} {off m k n : Nat} (hr : ∀ y ∈ d, 0 ≤ y ∧ y ≤ 255) (hl : d.length = n) (ho : off ≤ n) (h : Wr.dec (d.drop off) = some (m, k)) : off + k ≤ n ∧ m < 18446744073709551616 := by
  have := Wr.decl_bound (fun y hy => hr y (List.mem_of_mem_drop hy)) h
  rw [List.length_drop] at this
  omega
section
variable (w : World) (b : Nat) (ao : Option Addr) (n cap : Nat) (d : List Int)
theorem iu_any (s : Option Nat) (h : IS w b ao n cap d s) : Calls Try.prog 46 #[.pointer (some ⟨b, 0, none⟩)] w fun e w' => e = .returned (.int .u64 (Wr.uR d s).1) ∧ IT w w' b ao n cap d (Wr.uR d s).2 := by
  cases s with
  | none =>
    obtain ⟨x1, x2, h⟩ := h
    obtain ⟨c0, c1, c2, c3⟩ := h.cells
    have H := hid_of h
    clear h
    go_enter Try.func46, Try.ntmps46
    go_wp2
    go_ret
    exact ⟨rfl, ⟨x1, x2, H.out⟩, Wr.Kept.refl _ _⟩
  | some off =>
    obtain ⟨last, ho, h⟩ := h
    obtain ⟨c0, c1, c2, c3⟩ := h.cells
    have f2 := h.free 2
    have H1 := hid_of (h.set 2 (.int .i64 off) rfl)
    have K1 := hid_of (kept_set w b 2 (.int .i64 off))
    obtain ⟨W, hW⟩ : ∃ W, W = w.setCell ⟨b, 2, none⟩ (.int .i64 off) := ⟨_, rfl⟩
    rw [← hW] at H1 K1
    have HW := hid_of hW.symm
    have hdl := (bs_open h.rd).1
    have HRG := hid_of h.rng
    have RW := hid_of (raw_any ao n cap d off W.drew ((H1.out.bel (Below.refl _ _).drew).rd) h.rng h.small ho)
    have HKS : Hid (∀ X, Below W.heap.size W X → X.cell? ⟨b, 0, none⟩ = some (.slice ao n cap) ∧ X.cell? ⟨b, 1, none⟩ = some (.int .i64 off)) := hid_of (fun X hX => ⟨((H1.out.bel hX).cells).1, ((H1.out.bel hX).cells).2.1⟩)
    have B1 : Hid (Below W.heap.size W W.drew) := hid_of (Below.refl _ _).drew
    cases hd : Wr.dec (d.drop off) with
    | none =>
      have e1 : Wr.uR d (some off) = (0, none) := by simp only [Wr.uR, hd]
      rw [hd] at RW
      have RW : Hid (Calls Try.prog 69 #[.slice ao n cap, .int .i64 off] W.drew fun e w' => e = .returned (.tuple #[.int .u64 0, .int .i64 off, .bool false]) ∧ Below W.drew.heap.size W.drew w') := RW
      rw [e1]
      clear h hW hd e1 hdl
      go_enter Try.func46, Try.ntmps46
      go_wp2
      rw [HW.out]
      go_region_held3 (fun X => X.cell? ⟨b, 0, none⟩ = some (.slice ao n cap) ∧ X.cell? ⟨b, 1, none⟩ = some (.int .i64 off)) (exact HKS.out _ (Hid.out (by with_reducible assumption))) (first
        | (go_at_call 69; ((with_reducible refine (RW.out).mono ?_); (rintro e w3 ⟨rfl, q1⟩)); have B3 : Hid (Below W.heap.size W w3) := hid_of (undrew q1); clear q1; have I3 := hid_of (H1.out.bel B3.out); obtain ⟨k0, k1, k2, k3⟩ := I3.out.cells; have f3 := I3.out.free 3; have I4 := hid_of (I3.out.set 3 (.bool true) rfl)))
      all_goals go_wp2
      all_goals go_ret
      all_goals exact ⟨rfl, ⟨_, _, I4.out⟩, kept_trans K1.out (kept_trans (kept_bel B3.out) (kept_set _ _ _ _))⟩
    | some x =>
      obtain ⟨m, k⟩ := x
      have e1 : Wr.uR d (some off) = (m, some (off + k)) := by simp only [Wr.uR, hd]
      obtain ⟨l1, l2⟩ := dec_le h.rng hdl ho hd
      rw [hd] at RW
      have RW : Hid (Calls Try.prog 69 #[.slice ao n cap, .int .i64 off] W.drew fun e w' => e = .returned (.tuple #[.int .u64 m, .int .i64 ((off + k : Nat) : Int), .bool true]) ∧ Below W.drew.heap.size W.drew w') := RW
      rw [e1]
      clear h hW hd e1 hdl
      go_enter Try.func46, Try.ntmps46
      go_wp2
      rw [HW.out]
      go_region_held3 (fun X => X.cell? ⟨b, 0, none⟩ = some (.slice ao n cap) ∧ X.cell? ⟨b, 1, none⟩ = some (.int .i64 off)) (exact HKS.out _ (Hid.out (by with_reducible assumption))) (first
        | (go_at_call 69; ((with_reducible refine (RW.out).mono ?_); (rintro e w3 ⟨rfl, q1⟩)); have B3 : Hid (Below W.heap.size W w3) := hid_of (undrew q1); clear q1; have I3 := hid_of (H1.out.bel B3.out); obtain ⟨k0, k1, k2, k3⟩ := I3.out.cells; have f1 := I3.out.free 1; have I4 := hid_of (I3.out.set 1 (.int .i64 ((off + k : Nat) : Int)) rfl)))
      all_goals go_wp2
      all_goals go_ret
      all_goals exact ⟨rfl, ⟨_, l1, I4.out⟩, kept_trans K1.out (kept_trans (kept_bel B3.out) (kept_set _ _ _ _))⟩
end
end Go.Proofs.Ytofmijebinnejaa

/- The reference's In: Bytes, Text, End. Bounds on sizes alone. -/
namespace Go.Proofs.Ytofmijebinnejaa
open Go.RowKit
set_option maxRecDepth 100000
set_option maxHeartbeats 3200000

theorem conv_rdq {W : World} {a : Option Addr} {n c : Nat} {L : List Int} (h : Rd W (.slice a n c) (Wr.bs L)) : (convert 46 9 (.slice a n c)).run Try.prog W = .ok (.string (strOfNums L)) W := by
  obtain ⟨ao, cap, e, h2, h3, h4⟩ := h
  simp only [Value.slice.injEq] at e
  obtain ⟨rfl, rfl, rfl⟩ := e
  rw [bs_len] at h4 ⊢
  refine Wr.run_str W 46 9 5 Try.underlying46 Try.underlying5 Try.underlying9 a L c fun h0 => ?_
  obtain ⟨g, o, rfl, hg, hc⟩ := h4 h0
  refine ⟨_, rfl, fun j v hv => ?_⟩
  rw [Addr.add_mid]
  exact hc j v hv
theorem rd_none (w : World) : Rd w (.slice none 0 0) (Wr.bs []) := ⟨none, 0, rfl, Nat.le_refl _, by omega, fun h => by simp [Wr.bs] at h⟩
theorem lh_rule (g o len cap l h : Nat) (h1 : l ≤ h) (h2 : h ≤ cap) : ∃ A, (∀ wx, (Instr.slice 46 (.slice (some ⟨g, o, none⟩) len cap) (some (.int .i64 (l : Int))) (some (.int .i64 (h : Int))) none).run Try.prog wx = .ok (.slice A (h - l) (cap - l)) wx) ∧ (l < cap → A = some ⟨g, o + l, none⟩) := by
  obtain ⟨i0, hi, hz0, hz1, hz2⟩ := info_parts u8E.info
  have he : Try.prog.elem 46 = 5 := by kernel_rfl
  have ht : Try.prog.underlying 46 = some (.slice (Try.prog.elem 46)) := by rw [he]; exact Try.underlying46
  have hsz : ∀ wx, (sizeOf (Try.prog.elem 46)).run Try.prog wx = .ok 1 wx := fun wx => by
    rw [he]
    simp [sizeOf, typeInfo, hi, hz1]
  refine ⟨if cap = l then some ⟨g, o, none⟩ else (some (⟨g, o, none⟩ : Addr)).map (·.add (l * 1)), fun wx => ?_, fun hc => ?_⟩
  · rw [run_slice_lh (t := 46) (ht := ht) (h0 := by omega) (h1 := by omega) (h2 := by omega), hsz]
    rfl
  · rw [if_neg (by omega), Option.map_some, Addr.add_mid, Nat.mul_one]
theorem bs_part {W : World} {g o n cap l m : Nat} {d : List Int} {A : Option Addr} (h : Rd W (.slice (some ⟨g, o, none⟩) n cap) (Wr.bs d)) (hm : l + m ≤ n) (hA : l < cap → A = some ⟨g, o + l, none⟩) : Rd W (.slice A m (cap - l)) (Wr.bs ((d.drop l).take m)) := by
  obtain ⟨e1, e2, e3⟩ := bs_open h
  have hl : ((d.drop l).take m).length = m := by rw [List.length_take, List.length_drop]; omega
  obtain ⟨_, cc, ec, hc1, hc2, _⟩ := h
  simp only [Value.slice.injEq] at ec
  obtain ⟨_, _, rfl⟩ := ec
  refine ⟨A, cap - l, by rw [bs_len, hl], by rw [bs_len, hl]; omega, by omega, fun h0 => ?_⟩
  rw [bs_len, hl] at h0
  obtain ⟨g', o', e4, hg, hc⟩ := e3 (by omega)
  cases e4
  refine ⟨g, o + l, hA (by omega), hg, fun i t ht => ?_⟩
  simp only [Wr.bs, List.getElem?_map, List.getElem?_take, List.getElem?_drop] at ht
  split at ht
  · cases hdl : d[l + i]? with
    | none => rw [hdl] at ht; cases ht
    | some y =>
      rw [hdl] at ht
      cases ht
      have := hc (l + i) y hdl
      rw [← Nat.add_assoc] at this
      exact this
  · cases ht
theorem eown_new (w : World) : (w.alloc (.cells #[] 5)).ownsRow w.heap.size 5 1 (.slice (some ⟨w.heap.size, 0, none⟩) 0 0) 0 [] := (ow_empty 5 w).own
theorem bel_drA (w : World) (o : Obj) : Below w.heap.size w (w.alloc o) := bel_alloc w o
theorem src_part {W : World} {v : Value} {m : Nat} {Q : List Int} (_ : Elem Try.prog 46 5 (.int .u8 0) 1) (h : Rd W v (Wr.bs Q)) (hl : Q.length = m) : Src Try.prog 1 46 v m (Wr.bs Q) W := by
  have h1 := h.srcs u8E (bs_cells Q)
  rwa [bs_len, hl] at h1
theorem by_fin {w W4 W6 w5 : World} {b n cap l m : Nat} {ao : Option Addr} {d Q : List Int} {v v2 : Int} {ao5 : Option Addr} {cap5 : Nat} {v0 : Value} (I4 : Ib W4 b ao n cap d (.int .i64 v) (.int .i64 v2) (.bool false)) (B6 : Below W4.heap.size W4 W6) (O6 : W6.ownsRow W4.heap.size 5 1 v0 0 []) (G5 : GA W4.heap.size 5 1 W6 w5 v0 (.slice ao5 (0 + m) cap5) (0 + m) ([] ++ Wr.bs Q)) (K4 : Wr.Kept (fun k => k = b) w W4) (hq : Q.length = m) (hl : v = ((l : Nat) : Int) ∧ l ≤ n) (hm : m ≤ 140737488351232) :
    ∃ x k c, Ending.returned (.slice ao5 (0 + m) cap5) = .returned (.slice x k c) ∧ Rd w5 (.slice x k c) (Wr.bs Q) ∧ (0 < k → In (fun q => w.heap.size ≤ q) (.slice x k c)) ∧ IT w w5 b ao n cap d (some l) := by
  have hB : Below W4.heap.size W4 w5 := B6.trans ((ga_bel G5 O6 B6.size).mono (Nat.le_refl _))
  have hown := G5.own
  rw [List.nil_append, Nat.zero_add] at hown
  refine ⟨_, _, _, rfl, ?_, fun h0 a n c e => ?_, ⟨v2, hl.2, by rw [← hl.1]; exact I4.bel hB⟩, kept_trans K4 (kept_bel hB)⟩
  case refine_2 =>
    rcases hown.2 with ⟨h1, _⟩ | ⟨g, c9, cur, h1, hb, _⟩
    · rw [Nat.zero_add] at e
      rw [h1] at e
      cases e
    · rw [Nat.zero_add] at e
      rw [h1] at e
      cases e
      exact Nat.le_trans K4.size hb
  rw [Nat.zero_add]
  exact (show Ow 5 W4.heap.size w5 w5 (.slice ao5 m cap5) (Wr.bs Q) from ⟨hB.size, Below.refl _ _, by rw [bs_len, hq]; exact hown⟩).rd (by rw [bs_len, hq]; omega)
section
variable (w : World) (b : Nat) (ao : Option Addr) (n cap : Nat) (d : List Int)
theorem ib_any (s : Option Nat) (h : IS w b ao n cap d s) : Calls Try.prog 48 #[.pointer (some ⟨b, 0, none⟩)] w fun e w' => ∃ x k c, e = .returned (.slice x k c) ∧ Rd w' (.slice x k c) (Wr.bs (Wr.tR d s).1) ∧ (0 < k → In (fun q => w.heap.size ≤ q) (.slice x k c)) ∧ IT w w' b ao n cap d (Wr.tR d s).2 := by
  cases s with
  | none =>
    obtain ⟨x1, x2, h⟩ := h
    obtain ⟨c0, c1, c2, c3⟩ := h.cells
    have H := hid_of h
    clear h
    go_enter Try.func48, Try.ntmps48
    go_wp2
    go_ret
    exact ⟨none, 0, 0, rfl, rd_none _, (fun h9 => absurd h9 (by omega)), ⟨x1, x2, H.out⟩, Wr.Kept.refl _ _⟩
  | some off =>
    obtain ⟨last, ho, h⟩ := h
    obtain ⟨c0, c1, c2, c3⟩ := h.cells
    have f2 := h.free 2
    have H1 := hid_of (h.set 2 (.int .i64 off) rfl)
    have K1 := hid_of (kept_set w b 2 (.int .i64 off))
    obtain ⟨W, hW⟩ : ∃ W, W = w.setCell ⟨b, 2, none⟩ (.int .i64 off) := ⟨_, rfl⟩
    rw [← hW] at H1 K1
    have HW := hid_of hW.symm
    have hdl := (bs_open h.rd).1
    have HRG := hid_of h.rng
    have RW := hid_of (raw_any ao n cap d off W.drew ((H1.out.bel (Below.refl _ _).drew).rd) h.rng h.small ho)
    have HKS : Hid (∀ X, Below W.heap.size W X → X.cell? ⟨b, 0, none⟩ = some (.slice ao n cap) ∧ X.cell? ⟨b, 1, none⟩ = some (.int .i64 off)) := hid_of (fun X hX => ⟨((H1.out.bel hX).cells).1, ((H1.out.bel hX).cells).2.1⟩)
    have B1 : Hid (Below W.heap.size W W.drew) := hid_of (Below.refl _ _).drew
    cases hd : Wr.dec (d.drop off) with
    | none =>
      have e1 : Wr.tR d (some off) = ([], none) := by simp only [Wr.tR, Wr.decRun, hd]
      rw [hd] at RW
      have RW : Hid (Calls Try.prog 69 #[.slice ao n cap, .int .i64 off] W.drew fun e w' => e = .returned (.tuple #[.int .u64 0, .int .i64 off, .bool false]) ∧ Below W.drew.heap.size W.drew w') := RW
      rw [e1]
      clear h hW hd e1 hdl
      go_enter Try.func48, Try.ntmps48
      go_wp2
      rw [HW.out]
      go_region_held3 (fun X => X.cell? ⟨b, 0, none⟩ = some (.slice ao n cap) ∧ X.cell? ⟨b, 1, none⟩ = some (.int .i64 off)) (exact HKS.out _ (Hid.out (by with_reducible assumption))) (first
        | (go_at_call 69; ((with_reducible refine (RW.out).mono ?_); (rintro e w3 ⟨rfl, q1⟩)); have B3 : Hid (Below W.heap.size W w3) := hid_of (undrew q1); clear q1; have I3 := hid_of (H1.out.bel B3.out); obtain ⟨k0, k1, k2, k3⟩ := I3.out.cells; have f3 := I3.out.free 3; have I4 := hid_of (I3.out.set 3 (.bool true) rfl)))
      all_goals go_wp2
      all_goals go_ret
      all_goals exact ⟨none, 0, 0, rfl, rd_none _, (fun h9 => absurd h9 (by omega)), ⟨_, _, I4.out⟩, kept_trans K1.out (kept_trans (kept_bel B3.out) (kept_set _ _ _ _))⟩
    | some x =>
      obtain ⟨m, k⟩ := x
      obtain ⟨l1, l2⟩ := dec_le h.rng hdl ho hd
      have hsm := h.small
      rw [hd] at RW
      have RW : Hid (Calls Try.prog 69 #[.slice ao n cap, .int .i64 off] W.drew fun e w' => e = .returned (.tuple #[.int .u64 m, .int .i64 ((off + k : Nat) : Int), .bool true]) ∧ Below W.drew.heap.size W.drew w') := RW
      by_cases hfit : off + k + m ≤ n
      · have e1 : Wr.tR d (some off) = ((d.drop (off + k)).take m, some (off + k + m)) := by simp only [Wr.tR, Wr.decRun, hd]; rw [if_pos (by rw [List.length_drop]; omega)]
        have dgt : decide ((m : Int) > (n : Int) - ((off : Int) + (k : Int))) = false := by simp; omega
        have dgt2 : decide ((n : Int) - ((off : Int) + (k : Int)) < (m : Int)) = false := by simp; omega
        have hk0 := (Wr.decl_bound (fun y hy => h.rng y (List.mem_of_mem_drop hy)) hd).1
        obtain ⟨hdl2, hcap, hop⟩ := bs_open h.rd
        obtain ⟨g, o, rfl, hg, hc⟩ := hop (by omega)
        obtain ⟨A, SR, SA⟩ := lh_rule g o n cap (off + k) (off + k + m) (by omega) (by omega)
        have em : off + k + m - (off + k) = m := by omega
        rw [em] at SR
        have c1' : ((off + k : Nat) : Int) = (off : Int) + (k : Int) := by omega
        have c2' : ((off + k + m : Nat) : Int) = (off : Int) + (k : Int) + (m : Int) := by omega
        rw [c1', c2'] at SR
        obtain ⟨Q, hQ⟩ : ∃ Q, Q = (d.drop (off + k)).take m := ⟨_, rfl⟩
        have HQ : Hid (∀ X, Rd X (.slice (some ⟨g, o, none⟩) n cap) (Wr.bs d) → Rd X (.slice A m (cap - (off + k))) (Wr.bs Q)) := hid_of (fun X hX => by rw [hQ]; exact bs_part hX hfit SA)
        have HQL : Hid (Q.length = m) := hid_of (by rw [hQ, List.length_take, List.length_drop]; omega)
        rw [e1, ← hQ]
        have SRX := hid_of SR
        have em2 : m ≤ 140737488351232 := by omega
        clear h hW hd e1 hdl hQ hdl2 hc hop SA SR em c1' c2'
        go_enter Try.func48, Try.ntmps48
        go_wp2
        rw [HW.out]
        go_region_held3 (fun X => X.cell? ⟨b, 0, none⟩ = some (.slice (some ⟨g, o, none⟩) n cap) ∧ X.cell? ⟨b, 1, none⟩ = some (.int .i64 off)) (exact HKS.out _ (Hid.out (by with_reducible assumption))) (first
          | (go_at_call 69; ((with_reducible refine (RW.out).mono ?_); (rintro e w3 ⟨rfl, q1⟩)); have B3 : Hid (Below W.heap.size W w3) := hid_of (undrew q1); clear q1; have I3 := hid_of (H1.out.bel B3.out); obtain ⟨k0, k1, k2, k3⟩ := I3.out.cells; have f1 := I3.out.free 1; have I4 := hid_of (I3.out.set 1 (.int .i64 ((off : Int) + (k : Int) + (m : Int))) rfl); obtain ⟨z0, z1, z2, z3⟩ := I4.out.cells))
        have SR := SRX.out
        go_wp2
        obtain ⟨W4, hW4⟩ : ∃ W4, W4 = w3.setCell ⟨b, 1, none⟩ (.int .i64 ((off : Int) + (k : Int) + (m : Int))) := ⟨_, rfl⟩
        have K4 : Hid (Wr.Kept (fun k => k = b) w W4) := hid_of (by rw [hW4]; exact kept_trans K1.out (kept_trans (kept_bel B3.out) (kept_set _ _ _ _)))
        rw [← hW4] at I4 ⊢
        clear hW4 z0 z1 z2 z3
        have B6 := hid_of ((bel_alloc W4 (.cells #[] 5)).drew)
        have B5 : Hid (Below W4.heap.size W4 W4.drew) := hid_of (Below.refl _ _).drew
        have I6 := hid_of (I4.out.bel B6.out)
        obtain ⟨z0, z1, z2, z3⟩ := I6.out.cells
        obtain ⟨y0, y1, y2, y3⟩ := I4.out.cells
        obtain ⟨x0, x1, x2, x3⟩ := (I4.out.bel B5.out).cells
        have OW6 := hid_of ((eown_new W4).drew)
        have RD6 := hid_of (HQ.out _ I6.out.rd)
        go_region_law (refine step_gen 46 5 (.int .u8 0) 1 1 u8E.und u8E.info u8E.one (by decide) (by kernel_rfl) (.tmp 54) (.tmp 64) (by kernel_rfl) (B := W4.heap.size) (v := .slice (some ⟨W4.heap.size, 0, none⟩) 0 0) (l := []) (by kernel_rfl) OW6.out (by simp) (vx := .slice A m (cap - (off + k))) (by kernel_rfl) (src_part u8E RD6.out HQL.out) (by omega) (by omega) ?_; intro ao5 cap5 w5 ga; have G5 := hid_of ga; clear ga)
        all_goals go_wp2
        all_goals go_ret
        all_goals (obtain ⟨x, k', c, e, r, t⟩ := by_fin (l := off + k + m) I4.out B6.out OW6.out G5.out K4.out HQL.out (by omega) em2; rw [Nat.zero_add] at e; exact ⟨x, k', c, e, r, t⟩)
      · have e1 : Wr.tR d (some off) = ([], none) := by simp only [Wr.tR, Wr.decRun, hd]; rw [if_neg (by rw [List.length_drop]; omega)]
        have dgt : decide ((m : Int) > (n : Int) - ((off : Int) + (k : Int))) = true := by simp; omega
        have dgt2 : decide ((n : Int) - ((off : Int) + (k : Int)) < (m : Int)) = true := by simp; omega
        rw [e1]
        clear h hW hd e1 hdl
        go_enter Try.func48, Try.ntmps48
        go_wp2
        rw [HW.out]
        go_region_held3 (fun X => X.cell? ⟨b, 0, none⟩ = some (.slice ao n cap) ∧ X.cell? ⟨b, 1, none⟩ = some (.int .i64 off)) (exact HKS.out _ (Hid.out (by with_reducible assumption))) (first
          | (go_at_call 69; ((with_reducible refine (RW.out).mono ?_); (rintro e w3 ⟨rfl, q1⟩)); have B3 : Hid (Below W.heap.size W w3) := hid_of (undrew q1); clear q1; have I3 := hid_of (H1.out.bel B3.out); obtain ⟨k0, k1, k2, k3⟩ := I3.out.cells; have f3 := I3.out.free 3; have I4 := hid_of (I3.out.set 3 (.bool true) rfl)))
        all_goals go_wp2
        all_goals go_ret
        all_goals exact ⟨none, 0, 0, rfl, rd_none _, (fun h9 => absurd h9 (by omega)), ⟨_, _, I4.out⟩, kept_trans K1.out (kept_trans (kept_bel B3.out) (kept_set _ _ _ _))⟩
theorem it_any (s : Option Nat) (h : IS w b ao n cap d s) : Calls Try.prog 45 #[.pointer (some ⟨b, 0, none⟩)] w fun e w' => e = .returned (.string (strOfNums (Wr.tR d s).1)) ∧ IT w w' b ao n cap d (Wr.tR d s).2 := by
  have HB := hid_of (ib_any w b ao n cap d s h)
  clear h
  go_enter Try.func45, Try.ntmps45
  go_wp2_with (go_at_call 48; ((with_reducible refine (HB.out).mono ?_); (rintro e w2 ⟨x, k, c, rfl, q1, _, q2⟩)); have cv := conv_rdq q1; have I2 := hid_of q2; clear q1 q2)
  go_ret
  exact ⟨rfl, I2.out⟩
end
end Go.Proofs.Ytofmijebinnejaa

/- The journal's reference: Holds. Bounds on sizes alone. -/
namespace Go.Proofs.Ytofmijebinnejaa
open Go.RowKit
open Wr (decRun dec)
set_option maxRecDepth 100000
set_option maxHeartbeats 6400000

theorem il_any (w : World) (b : Nat) (ao : Option Addr) (n cap : Nat) (d : List Int) (off : Nat) (h : IS w b ao n cap d (some off)) : Calls Try.prog 47 #[.pointer (some ⟨b, 0, none⟩)] w fun e w' => e = .returned (.int .i64 ((n - off : Nat) : Int)) ∧ ∃ m, w' = w.drewN m := by
  obtain ⟨last, ho, h⟩ := h
  obtain ⟨c0, c1, c2, c3⟩ := h.cells
  have hsm := h.small
  have a1 : IntKind.i64.wrap ((n : Int) - (off : Int)) = (n : Int) - (off : Int) := IntWalk.i64_in _ (by omega)
  clear h
  go_enter Try.func47, Try.ntmps47
  go_wp2
  go_quiet (fail)
  go_wp2
  go_ret
  exact ⟨Wr.ret_i64 (by omega), nq, rfl⟩
/-- A record more, wherever it lies. -/
theorem RK.push2 {w wr w3 : World} {b : Nat} {vs : Value} {acc : List (List Int)} {xs : List Value} {p : Nat} (hp : p = acc.length) (h : RK w wr b b vs acc xs) (hb : w.heap.size ≤ b ∧ b < wr.heap.size) (k : Wr.Kept (fun k => k = b) wr w3) {q : List Int} {x : Value} (hx : CR (fun k => wr.heap.size ≤ k ∧ k < w3.heap.size) w3 x q)
    {ao : Option Addr} {cap : Nat} {w5 : World} (ga : GA w.heap.size 46 1 (w3.alloc (.cells #[x] 46)) w5 vs (.slice ao (p + 1) cap) (p + 1) (xs ++ [x])) :
    RK w w5 b b (.slice ao (p + 1) cap) (acc ++ [q]) (xs ++ [x]) := by
  subst hp
  have h3 := h.kept hb.1 k
  have s4 : (w3.alloc (.cells #[x] 46)).heap.size = w3.heap.size + 1 := by simp
  have ba := bel_alloc w3 (.cells #[x] 46)
  have hfr : ∀ k, (Value.slice ao (acc.length + 1) cap).ownBlock = some k → vs.ownBlock = some k ∨ k = w3.heap.size + 1 := fun k hk => by
    rcases ga.fr with e | e
    · exact Or.inl (by rw [← e]; exact hk)
    · rw [e] at hk; exact Or.inr (by rw [← s4]; exact (Option.some.inj hk).symm)
  have k5 : ∀ k, k < w3.heap.size → vs.ownBlock ≠ some k → w5.heap[k]? = w3.heap[k]? := fun k hk hv => (ga.gr.block k (by omega) (fun e => hv e.symm)).trans (ba.block k hk)
  have s5 := ga.gr.size
  have hs3 : wr.heap.size ≤ w3.heap.size := k.size
  have bel5 : Below w.heap.size w w5 := h3.bel.trans ((ba.mono h3.bel.size).trans ⟨ga.gr.os, ga.gr.tape, ga.gr.output, ga.gr.size, fun q hq => ga.gr.block q (by have := h3.bel.size; omega) (fun e => by have := (h3.own.lt q e.symm).1; omega)⟩)
  have hnb : (Value.slice ao (acc.length + 1) cap).ownBlock ≠ some b := fun e => by
    rcases hfr b e with h1 | h1
    · exact h.nb.1 h1
    · omega
  refine ⟨bel5, by rw [List.length_append]; exact ga.own, ⟨hnb, hnb⟩, fun i y l hy hl => ?_⟩
  have hxl := h.xl
  by_cases e : i < xs.length
  · rw [List.getElem?_append_left e] at hy
    rw [List.getElem?_append_left (by omega)] at hl
    refine (CR.keep (h3.ent i y l hy hl).lt ⟨by omega, fun k hk _ => k5 k hk.2 hk.1.2.2.2⟩).mono fun k hk => ⟨hk.1.1, hk.1.2.1, hk.1.2.2.1, fun e2 => ?_⟩
    rcases hfr k e2 with h1 | h1
    · exact hk.1.2.2.2 h1
    · have := hk.2; omega
  · rw [List.getElem?_append_right (by omega)] at hy
    rw [List.getElem?_append_right (by omega)] at hl
    have hi : i = xs.length := by have := (List.getElem?_eq_some_iff.1 hy).1; simp at this; omega
    subst hi
    rw [hxl] at hl
    simp at hy hl
    subst hy hl
    have hvn : ∀ k, wr.heap.size ≤ k → vs.ownBlock ≠ some k := fun k hk e2 => by have := (h.own.lt k e2).2; omega
    refine (hx.keep ⟨by omega, fun k hk _ => k5 k hk.2 (hvn k hk.1)⟩).mono fun k hk => ⟨by have := h.bel.size; omega, by omega, by omega, fun e2 => ?_⟩
    rcases hfr k e2 with h1 | h1
    · exact hvn k hk.1 h1
    · omega
end Go.Proofs.Ytofmijebinnejaa

/- The journal's reference: Holds, whole. Bounds on sizes alone. -/
namespace Go.Proofs.Ytofmijebinnejaa
open Go.RowKit
open Wr (decRun dec)
set_option maxRecDepth 100000
set_option maxHeartbeats 6400000

theorem upto_u8 (g o len cap s : Nat) (hs : s ≤ cap) : ∀ wx, (Instr.slice 46 (.slice (some ⟨g, o, none⟩) len cap) none (some (.int .u64 (s : Int))) none).run Try.prog wx = .ok (.slice (some ⟨g, o, none⟩) s cap) wx := fun wx => by
  obtain ⟨i0, hi, hz0, hz1, hz2⟩ := info_parts u8E.info
  have he : Try.prog.elem 46 = 5 := by kernel_rfl
  have ht : Try.prog.underlying 46 = some (.slice (Try.prog.elem 46)) := by rw [he]; exact Try.underlying46
  have hsz : (sizeOf (Try.prog.elem 46)).run Try.prog wx = .ok 1 wx := by
    rw [he]
    simp [sizeOf, typeInfo, hi, hz1]
  rw [run_slice_h (t := 46) (ht := ht) (h0 := by omega) (h2 := by omega), hsz]
  simp [Result.andThen, sliced, Addr.add]
theorem fro_u8 (g o len cap s : Nat) (hs : s ≤ len) (hc : len ≤ cap) : ∃ A, (∀ wx, (Instr.slice 46 (.slice (some ⟨g, o, none⟩) len cap) (some (.int .i64 (s : Int))) none none).run Try.prog wx = .ok (.slice A (len - s) (cap - s)) wx) ∧ (s < cap → A = some ⟨g, o + s, none⟩) := by
  obtain ⟨i0, hi, hz0, hz1, hz2⟩ := info_parts u8E.info
  have he : Try.prog.elem 46 = 5 := by kernel_rfl
  have ht : Try.prog.underlying 46 = some (.slice (Try.prog.elem 46)) := by rw [he]; exact Try.underlying46
  have hsz : ∀ wx, (sizeOf (Try.prog.elem 46)).run Try.prog wx = .ok 1 wx := fun wx => by
    rw [he]
    simp [sizeOf, typeInfo, hi, hz1]
  refine ⟨if cap = s then some ⟨g, o, none⟩ else (some (⟨g, o, none⟩ : Addr)).map (·.add (s * 1)), fun wx => ?_, fun hlt => ?_⟩
  · rw [run_slice_l (t := 46) (ht := ht) (h0 := by omega) (h1 := by omega), hsz]
    rfl
  · rw [if_neg (by omega), Option.map_some, Addr.add_mid, Nat.mul_one]
/-- What the two reads of a head give. -/
theorem hd_st {H : List Int} (h0 : zerosB H = false) :
    ((Wr.uR H (Wr.tR H (some 0)).2).2 = none → hdF H = none) ∧ ∀ off, (Wr.uR H (Wr.tR H (some 0)).2).2 = some off → hdF H = if (Wr.tR H (some 0)).1 = jnT then (if zerosB (H.drop off) = true then some (Wr.uR H (Wr.tR H (some 0)).2).1 else none) else none := by
  have hz : ¬ zerosB H = true := by simp [h0]
  cases hd : decRun H with
  | none =>
    have ht : Wr.tR H (some 0) = ([], none) := by simp only [Wr.tR, List.drop_zero, hd]
    rw [ht]
    exact ⟨fun _ => by rw [hdF, if_neg hz, hd], fun off h => by cases h⟩
  | some x =>
    obtain ⟨k, m⟩ := x
    have ht : Wr.tR H (some 0) = ((H.drop k).take m, some (k + m)) := by simp only [Wr.tR, List.drop_zero, hd, Nat.zero_add]
    rw [ht]
    cases hu : dec (H.drop (k + m)) with
    | none =>
      have hu2 : Wr.uR H (some (k + m)) = (0, none) := by simp only [Wr.uR, hu]
      rw [hu2]
      exact ⟨fun _ => by rw [hdF, if_neg hz, hd]; simp only [hu]; split <;> rfl, fun off h => by cases h⟩
    | some y =>
      obtain ⟨n, k2⟩ := y
      have hu2 : Wr.uR H (some (k + m)) = (n, some (k + m + k2)) := by simp only [Wr.uR, hu]
      rw [hu2]
      refine ⟨fun h => (by cases h), fun off h => ?_⟩
      cases h
      rw [hdF, if_neg hz, hd]
      simp only [hu]
theorem Ib.same {w w2 : World} {b B0 : Nat} {ao : Option Addr} {n cap : Nat} {d : List Int} {v1 v2 v3 : Value} (h : Ib w b ao n cap d v1 v2 v3) (hin : 0 < d.length → In (fun k => k < B0) (.slice ao n cap)) (hs : w.heap.size ≤ w2.heap.size) (hb : w2.heap[b]? = w.heap[b]?) (hk : ∀ k, k < B0 → k < w.heap.size → w2.heap[k]? = w.heap[k]?) : Ib w2 b ao n cap d v1 v2 v3 :=
  ⟨hb.trans h.blk, (CR.keep (S := fun k => k < B0) (show CR (fun k => k < B0) w (.slice ao n cap) d from ⟨h.rd, hin⟩) ⟨hs, hk⟩).1, h.ne, h.rng, h.small⟩
theorem IS.same {w w2 : World} {b B0 : Nat} {ao : Option Addr} {n cap : Nat} {d : List Int} {s : Option Nat} (h : IS w b ao n cap d s) (hin : 0 < d.length → In (fun k => k < B0) (.slice ao n cap)) (hs : w.heap.size ≤ w2.heap.size) (hb : w2.heap[b]? = w.heap[b]?) (hk : ∀ k, k < B0 → k < w.heap.size → w2.heap[k]? = w.heap[k]?) : IS w2 b ao n cap d s := by
  cases s with
  | none => obtain ⟨x1, x2, h⟩ := h; exact ⟨x1, x2, h.same hin hs hb hk⟩
  | some off => obtain ⟨x, ho, h⟩ := h; exact ⟨x, ho, h.same hin hs hb hk⟩
theorem IS.at1 {w : World} {b : Nat} {ao : Option Addr} {n cap : Nat} {d : List Int} {off : Nat} (h : IS w b ao n cap d (some off)) : w.cell? ⟨b, 1, none⟩ = some (.int .i64 off) ∧ off ≤ n ∧ w.cell? ⟨b, 3, none⟩ = some (.bool false) := by
  obtain ⟨x, ho, h⟩ := h
  exact ⟨h.cells.2.1, ho, h.cells.2.2.2⟩
theorem rd_upto {w : World} {ao : Option Addr} {n cap : Nat} {l : List Int} (h : Rd w (.slice ao n cap) (by8 l)) {k : Nat} (hk : k ≤ n) : Rd w (.slice ao k cap) (by8 (l.take k)) := by
  obtain ⟨a, c, e, h2, h3, h4⟩ := h
  simp only [Value.slice.injEq] at e
  obtain ⟨rfl, rfl, rfl⟩ := e
  rw [by8_length] at hk h2 h4
  have hl : (by8 (l.take k)).length = k := by rw [by8_length, List.length_take]; omega
  refine ⟨ao, cap, by rw [hl], by rw [hl]; omega, h3, fun h0 => ?_⟩
  obtain ⟨g, o, e1, e2, e3⟩ := h4 (by omega)
  refine ⟨g, o, e1, e2, fun j u hu => e3 j u ?_⟩
  rw [by8, List.map_take, List.getElem?_take] at hu
  split at hu
  · exact hu
  · cases hu
theorem rd_from {w : World} {g o n cap s : Nat} {l : List Int} {A : Option Addr} (h : Rd w (.slice (some ⟨g, o, none⟩) n cap) (by8 l)) (hn : l.length = n) (hs : s ≤ n) (hA : s < cap → A = some ⟨g, o + s, none⟩) : Rd w (.slice A (n - s) (cap - s)) (by8 (l.drop s)) := by
  have h1 := bs_part (m := n - s) (l := s) (d := l) (A := A) h (by omega) hA
  rw [List.take_of_length_le (by rw [List.length_drop]; omega)] at h1
  exact h1
theorem decRun_some' {l : List Int} {k n : Nat} (h : decRun l = some (k, n)) : dec l = some (n, k) ∧ n ≤ l.length - k := Wr.decRun_some h
/-- What Holds gives. -/
def HoP (H A : List Int) (w : World) (e : Ending) (w' : World) : Prop := (∃ (R : List (List Int)) (x : Option Addr) (n c : Nat), holdsF H A = some R ∧ e = .returned (.tuple #[.slice x n c, .bool true]) ∧ RB (fun k => w.heap.size ≤ k) w' (.slice x n c) R ∧ Below w.heap.size w w') ∨ (holdsF H A = none ∧ e = .returned (.tuple #[.slice none 0 0, .bool false]) ∧ Below w.heap.size w w')
theorem rholds_any (H A : List Int) (a1 : Option Addr) (n1 c1 : Nat) (a2 : Option Addr) (n2 c2 : Nat) (w : World) (r1 : Rd w (.slice a1 n1 c1) (by8 H)) (r2 : Rd w (.slice a2 n2 c2) (by8 A)) (g1 : Byt H) (g2 : Byt A) (l1 : H.length ≤ 100000) (l2 : A.length ≤ 100000) (l0 : 0 < A.length) :
    Calls Try.prog 25 #[.slice a1 n1 c1, .slice a2 n2 c2] w (HoP H A w) := by
  have hn1 := (rd_cut r1).1
  have hn2 := (rd_cut r2).1
  have hc1 := (rd_cut r1).2
  have hc2 := (rd_cut r2).2
  rw [by8_length] at hn1 hn2
  have HN1 := hid_of hn1
  have HN2 := hid_of hn2
  obtain ⟨w1, hw1⟩ : ∃ w1, w1 = w.alloc (.cells #[] 46) := ⟨_, rfl⟩
  have b1 : Below w.heap.size w w1 := by rw [hw1]; exact bel_alloc w _
  have sz1 : w1.heap.size = w.heap.size + 1 := by rw [hw1]; simp
  have CZ := hid_of (rzeros_any a1 n1 c1 H w1 (r1.at b1))
  have HW1 := hid_of hw1
  have BE1 := hid_of b1
  by_cases hz : zerosB H = true
  · rw [hz] at CZ
    have HH : Hid (holdsF H A = some []) := hid_of (by unfold holdsF; rw [if_pos (show H.all (· == 0) = true from hz)])
    clear r1 r2 b1 hz hn1 hn2
    go_enter Try.func25, Try.ntmps25
    go_wp2_with (first
      | (go_at_call 44; rw [← HW1.out]; ((with_reducible refine (CZ.out).mono ?_); (rintro e w2 ⟨rfl, rfl⟩))))
    go_ret2
    exact Or.inl ⟨[], _, _, _, HH.out, rfl, rb_nil _ _ _ _ (by omega), bel_alloc w _⟩
  have hz' : zerosB H = false := by simpa using hz
  rw [hz'] at CZ
  obtain ⟨hs1, hs2⟩ := hd_st hz'
  have hHne : 0 < H.length := by
    rcases Nat.eq_zero_or_pos H.length with h9 | h9
    · rw [List.length_eq_zero_iff.1 h9] at hz'; cases hz'
    · exact h9
  obtain ⟨gH, oH, rfl⟩ : ∃ g o, a1 = some ⟨g, o, none⟩ := by
    obtain ⟨y, hy⟩ : ∃ y, (by8 H)[0]? = some y := ⟨_, List.getElem?_eq_getElem (by rw [by8_length]; exact hHne)⟩
    obtain ⟨g, o, e, _⟩ := rd_at r1 hy
    exact ⟨g, o, e⟩
  obtain ⟨gA, oA, rfl⟩ : ∃ g o, a2 = some ⟨g, o, none⟩ := by
    obtain ⟨y, hy⟩ : ∃ y, (by8 A)[0]? = some y := ⟨_, List.getElem?_eq_getElem (by rw [by8_length]; exact l0)⟩
    obtain ⟨g, o, e, _⟩ := rd_at r2 hy
    exact ⟨g, o, e⟩
  obtain ⟨w2, hw2⟩ : ∃ w2, w2 = w1.alloc (.cells #[.slice (some ⟨gH, oH, none⟩) n1 c1, .int .i64 0, .int .i64 0, .bool false] 85) := ⟨_, rfl⟩
  have HW2 := hid_of hw2
  have b2 : Below w.heap.size w w2 := by rw [hw2]; exact b1.trans ((bel_alloc _ _).mono (by omega))
  have sz2 : w2.heap.size = w.heap.size + 2 := by rw [hw2]; simp; omega
  have I2 : IS w2 (w.heap.size + 1) (some ⟨gH, oH, none⟩) n1 c1 H (some 0) := ⟨0, Nat.zero_le _, by rw [hw2, ← sz1]; exact heap_alloc_new w1 _, r1.at b2, fun h0 a n c e => by
    have := rd_in r1 (by rw [by8_length]; exact h0) a n c e
    omega, g1, by omega⟩
  have CT := hid_of (it_any w2 (w.heap.size + 1) (some ⟨gH, oH, none⟩) n1 c1 H (some 0) I2)
  have CU := hid_of (fun (X : World) (s : Option Nat) (h : IS X (w.heap.size + 1) (some ⟨gH, oH, none⟩) n1 c1 H s) => iu_any X (w.heap.size + 1) (some ⟨gH, oH, none⟩) n1 c1 H s h)
  have BE2 := hid_of b2
  obtain ⟨nm, hnm⟩ : ∃ nm, nm = (Wr.tR H (some 0)).1 := ⟨_, rfl⟩
  obtain ⟨st1, hst1⟩ : ∃ s, s = (Wr.tR H (some 0)).2 := ⟨_, rfl⟩
  have hnr : Byt nm := fun y hy => by
    rw [hnm] at hy
    unfold Wr.tR at hy
    split at hy
    · cases hy
    · split at hy
      · exact g1 y (List.mem_of_mem_drop (List.mem_of_mem_take hy))
      · cases hy
  obtain ⟨nn, hnn⟩ : ∃ nn, nn = (Wr.uR H st1).1 := ⟨_, rfl⟩
  obtain ⟨st2, hst2⟩ : ∃ s, s = (Wr.uR H st1).2 := ⟨_, rfl⟩
  have CU1 := hid_of (fun (X : World) (h : IS X (w.heap.size + 1) (some ⟨gH, oH, none⟩) n1 c1 H st1) => CU.out X st1 h)
  rw [← hnm, ← hst1] at CT
  rw [← hst1, ← hnn, ← hst2] at hs2
  rw [← hst1, ← hst2] at hs1
  rw [← hnn, ← hst2] at CU1
  rw [← hnm] at hs2
  have HKB := hid_of (fun (X Y : World) (k : Wr.Kept (fun k => k = w.heap.size + 1) X Y) (hX : Below w.heap.size w X) => show Below w.heap.size w Y from hX.trans (k.below (by have := hX.size; omega) fun q e => by omega))
  obtain ⟨sq, hsq⟩ : ∃ sq, sq = strOfNums nm := ⟨_, rfl⟩
  rw [← hsq] at CT
  cases st2 with
  | none =>
    have HH : Hid (holdsF H A = none) := hid_of (by rw [holds_hd, hs1 rfl]; rfl)
    clear r1 r2 b1 b2 hs1 hs2 hz hz' I2 CU hnm hst1 hnn hst2 hsq hnr hn1 hn2 hw1 hw2 sz2
    go_enter Try.func25, Try.ntmps25
    go_wp2_with (first
      | (go_at_call 44; rw [← HW1.out]; ((with_reducible refine (CZ.out).mono ?_); (rintro e w2 ⟨rfl, rfl⟩)))
      | (go_at_call 45; (try rw [sz1]); rw [← HW2.out]; ((with_reducible refine (CT.out).mono ?_); (rintro e w3 ⟨rfl, q1, q2⟩)); have I3 := hid_of q1; have B3 := hid_of (HKB.out _ _ q2 BE2.out); clear q1 q2)
      | (go_at_call 46; ((with_reducible refine (CU1.out w3 I3.out).mono ?_); (rintro e w4 ⟨rfl, q1, q2⟩)); have I4 := hid_of q1; have B4 := hid_of (HKB.out _ _ q2 B3.out); have c3 := I4.out.bad.1; clear q1 q2))
    go_ret2
    exact Or.inr ⟨HH.out, rfl, B4.out⟩
  | some off =>
    have hHF := hs2 off rfl
    have hol : off ≤ n1 := by
      rw [hn1]
      have h9 := hst2
      cases st1 with
      | none => cases h9
      | some o1 =>
        simp only [Wr.uR] at h9
        cases hu : dec (H.drop o1) with
        | none => rw [hu] at h9; cases h9
        | some y =>
          obtain ⟨m9, k9⟩ := y
          rw [hu] at h9
          simp only [Option.some.injEq] at h9
          have h8 := Wr.decl_bound (fun y hy => g1 y (List.mem_of_mem_drop hy)) hu
          rw [List.length_drop] at h8
          omega
    obtain ⟨SA, SR, SAA⟩ := fro_u8 gH oH n1 c1 off hol hc1.1
    have CZ2G := hid_of (fun (X : World) (hX : Below w.heap.size w X) => rzeros_any SA (n1 - off) (c1 - off) (H.drop off) X (rd_from (r1.at hX) hn1.symm hol SAA))
    have c19 : (n1 : Int) ≤ (c1 : Int) := by omega
    have o19 : (off : Int) ≤ (n1 : Int) := by omega
    have s64 : IntKind.u64.wrap (n2 : Int) = (n2 : Int) := IntWalk.u64_in _ (by omega)
    by_cases hj : nm = jnT
    · have es : sq = jnB := by rw [hsq]; exact (strs_jn hnr).2 hj
      have e1 : (sq.toList == [106, 111, 117, 114, 110, 97, 108]) = true := beq_iff_eq.2 (by rw [es]; exact jnB_list)
      rw [if_pos hj] at hHF
      cases hzd : zerosB (H.drop off) with
      | false =>
        rw [hzd] at CZ2G
        have HH : Hid (holdsF H A = none) := hid_of (by rw [holds_hd, hHF, if_neg (by rw [hzd]; simp)]; rfl)
        clear r1 r2 b1 b2 hs1 hs2 hz hz' I2 CU hnm hst1 hnn hst2 hsq hnr hn1 hn2 hw1 hw2 sz2 hHF hj es hzd SAA
        go_enter Try.func25, Try.ntmps25
        go_wp2_with (first
          | (go_at_call 44; rw [← HW1.out]; ((with_reducible refine (CZ.out).mono ?_); (rintro e w2 ⟨rfl, rfl⟩)))
          | (go_at_call 45; (try rw [sz1]); rw [← HW2.out]; ((with_reducible refine (CT.out).mono ?_); (rintro e w3 ⟨rfl, q1, q2⟩)); have I3 := hid_of q1; have B3 := hid_of (HKB.out _ _ q2 BE2.out); have K3 := hid_of q2; clear q1 q2)
          | (go_at_call 46; ((with_reducible refine (CU1.out w3 I3.out).mono ?_); (rintro e w4 ⟨rfl, q1, q2⟩)); have I4 := hid_of q1; have B4 := hid_of (HKB.out _ _ q2 B3.out); have K4 := hid_of q2; obtain ⟨c1', _, c3⟩ := I4.out.at1; have CZ2 := hid_of (CZ2G.out w4 B4.out); clear q1 q2)
          | (go_at_call 44; ((with_reducible refine (CZ2.out).mono ?_); (rintro e w5 ⟨rfl, rfl⟩))))
        go_ret2
        exact Or.inr ⟨HH.out, rfl, B4.out⟩
      | true =>
        rw [hzd] at CZ2G
        rw [if_pos hzd] at hHF
        by_cases hfit : n2 < nn
        · have f1 : decide (n2 < nn) = true := decide_eq_true hfit
          have f2 : decide ((n2 : Int) < (nn : Int)) = true := decide_eq_true (by omega)
          have HH : Hid (holdsF H A = none) := hid_of (by rw [holds_hd, hHF]; show (if nn ≤ A.length then _ else none) = none; rw [if_neg (by omega)])
          clear r1 r2 b1 b2 hs1 hs2 hz hz' I2 CU hnm hst1 hnn hst2 hsq hnr hn1 hn2 hw1 hw2 sz2 hHF hj es hzd SAA
          go_enter Try.func25, Try.ntmps25
          go_wp2_with (first
            | (go_at_call 44; rw [← HW1.out]; ((with_reducible refine (CZ.out).mono ?_); (rintro e w2 ⟨rfl, rfl⟩)))
            | (go_at_call 45; (try rw [sz1]); rw [← HW2.out]; ((with_reducible refine (CT.out).mono ?_); (rintro e w3 ⟨rfl, q1, q2⟩)); have I3 := hid_of q1; have B3 := hid_of (HKB.out _ _ q2 BE2.out); have K3 := hid_of q2; clear q1 q2)
            | (go_at_call 46; ((with_reducible refine (CU1.out w3 I3.out).mono ?_); (rintro e w4 ⟨rfl, q1, q2⟩)); have I4 := hid_of q1; have B4 := hid_of (HKB.out _ _ q2 B3.out); have K4 := hid_of q2; obtain ⟨c1', _, c3⟩ := I4.out.at1; have CZ2 := hid_of (CZ2G.out w4 B4.out); clear q1 q2)
            | (go_at_call 44; ((with_reducible refine (CZ2.out).mono ?_); (rintro e w5 ⟨rfl, rfl⟩))))
          go_ret2
          exact Or.inr ⟨HH.out, rfl, B4.out⟩
        · have f1 : decide (n2 < nn) = false := decide_eq_false hfit
          have f2 : decide ((n2 : Int) < (nn : Int)) = false := decide_eq_false (by omega)
          obtain ⟨d, hd⟩ : ∃ d, d = A.take nn := ⟨_, rfl⟩
          have hdl : d.length = nn := by rw [hd, List.length_take]; omega
          have hdr : Byt d := fun y hy => g2 y (by rw [hd] at hy; exact List.mem_of_mem_take hy)
          have HH : Hid (holdsF H A = recsF d (d.length + 1) 0) := hid_of (by rw [holds_hd, hHF]; show (if nn ≤ A.length then _ else none) = _; rw [if_pos (by omega), hdl, hd])
          have SU := upto_u8 gA oA n2 c2 nn (by omega)
          have RA := hid_of (fun (X : World) (hX : Below w.heap.size w X) => show Rd X (.slice (some ⟨gA, oA, none⟩) nn c2) (by8 d) from by rw [hd]; exact rd_upto (r2.at hX) (by omega))
          have HIN2 := hid_of (show 0 < d.length → In (fun k => k < w.heap.size) (.slice (some ⟨gA, oA, none⟩) nn c2) from fun h0 a n c e => by
            have h9 := rd_in r2 (by rw [by8_length]; exact l0) (⟨gA, oA, none⟩) n2 c2 rfl
            cases e
            exact h9)
          have HDR := hid_of hdr
          have HDL := hid_of hdl
          have nn9 : nn ≤ 100000 := by omega
          have nn9' : (nn : Int) ≤ (c2 : Int) := by omega
          have HBL := hid_of (show w1.heap[w.heap.size]? = some (.cells #[] 46) from by rw [hw1]; exact heap_alloc_new w _)
          have HBL2 := hid_of (show w2.heap[w.heap.size]? = some (.cells #[] 46) from by rw [hw2]; exact ((bel_alloc w1 _).block _ (by omega)).trans HBL.out)
          have HS2 := hid_of sz2
          clear r1 r2 b1 b2 hs1 hs2 hz hz' I2 CU hnm hst1 hnn hst2 hsq hnr hn1 hn2 hw1 hw2 sz2 hHF hj es hzd SAA hd hdl hdr hfit
          go_enter Try.func25, Try.ntmps25
          go_wp2_with (first
            | (go_at_call 44; rw [← HW1.out]; ((with_reducible refine (CZ.out).mono ?_); (rintro e w2 ⟨rfl, rfl⟩)))
            | (go_at_call 45; (try rw [sz1]); rw [← HW2.out]; ((with_reducible refine (CT.out).mono ?_); (rintro e w3 ⟨rfl, q1, q2⟩)); have I3 := hid_of q1; have B3 := hid_of (HKB.out _ _ q2 BE2.out); have K3 := hid_of q2; clear q1 q2)
            | (go_at_call 46; ((with_reducible refine (CU1.out w3 I3.out).mono ?_); (rintro e w4 ⟨rfl, q1, q2⟩)); have I4 := hid_of q1; have B4 := hid_of (HKB.out _ _ q2 B3.out); have K4 := hid_of q2; obtain ⟨c1', _, c3⟩ := I4.out.at1; have CZ2 := hid_of (CZ2G.out w4 B4.out); clear q1 q2)
            | (go_at_call 44; ((with_reducible refine (CZ2.out).mono ?_); (rintro e w5 ⟨rfl, rfl⟩))))
          obtain ⟨b2, hb2⟩ : ∃ b2, b2 = w4.heap.size := ⟨_, rfl⟩
          rw [← hb2]
          obtain ⟨W5, hW5⟩ : ∃ W5, W5 = w4.alloc (.cells #[.slice (some ⟨gA, oA, none⟩) nn c2, .int .i64 0, .int .i64 0, .bool false] 85) := ⟨_, rfl⟩
          have ba : Below w4.heap.size w4 W5 := by rw [hW5]; exact bel_alloc w4 _
          have hs4 := B4.out.size
          have hk3 := K3.out.size
          have hk4 := K4.out.size
          have hss2 := HS2.out
          have hlb : W5.heap[w.heap.size]? = some (.cells #[] 46) := (ba.block _ (by omega)).trans ((K4.out.block w.heap.size (by omega) (by omega)).trans ((K3.out.block w.heap.size (by omega) (by omega)).trans HBL2.out))
          have hbw : w.heap.size ≤ b2 ∧ b2 < W5.heap.size ∧ w.heap.size < b2 := by
            have h9 : W5.heap.size = w4.heap.size + 1 := by rw [hW5]; simp
            omega
          have I5 : IS W5 b2 (some ⟨gA, oA, none⟩) nn c2 d (some 0) := ⟨0, Nat.zero_le _, by rw [hW5, hb2]; exact heap_alloc_new w4 _, RA.out W5 (B4.out.trans (ba.mono hs4)), fun h0 a n c e => by have := HIN2.out h0 a n c e; omega, HDR.out, by omega⟩
          have R5 : RK w W5 b2 b2 (.slice (some ⟨w.heap.size, 0, none⟩) 0 0) [] [] := ⟨B4.out.trans (ba.mono hs4), ⟨rfl, .inr ⟨w.heap.size, 0, #[], rfl, Nat.le_refl _, hlb, Nat.le_refl _, by unfold maxLen; omega, rfl, rfl⟩⟩, ⟨fun e => by simp [Value.ownBlock] at e; omega, fun e => by simp [Value.ownBlock] at e; omega⟩, fun i x l hx => by simp at hx⟩
          have HI5 := hid_of I5
          have HR5 := hid_of R5
          have HBW := hid_of hbw
          rw [← hW5]
          clear I5 R5 hbw hlb hss2 hk3 hk4 hs4 ba hW5 hb2 c1' c3
          go_loopw [6] (fun rv wr => ∃ (o : Nat) (acc : List (List Int)) (xs : List Value), acc.length ≤ o ∧ Hid (IS wr b2 (some ⟨gA, oA, none⟩) nn c2 d (some o)) ∧ Hid (RK w wr b2 b2 rv acc xs) ∧ Hid (b2 < wr.heap.size) ∧ Hid (recsF d (d.length + 1) 0 = (recsF d (d.length + 1 - acc.length) o).map (acc ++ ·))) (fun _ wr => (match wr.cell? ⟨b2, 1, none⟩ with | some (.int .i64 o) => (nn : Int) - o | _ => 0).toNat)
          case atStart => exact ⟨0, [], [], Nat.le_refl _, HI5, HR5, hid_of HBW.out.2.1, hid_of (by simp)⟩
          case round =>
            obtain ⟨o, acc, xs, hac, hrs, hk, hbl, hq⟩ := hrel
            obtain ⟨aR, cR, rfl⟩ := own_shape hk.out.own
            obtain ⟨hc1, hole, hc3⟩ := hrs.out.at1
            have HC1 := hid_of hc1
            obtain ⟨p, hp⟩ : ∃ p, p = acc.length := ⟨_, rfl⟩
            have HP := hid_of hp
            have hp9 : p ≤ 1000000000 := by omega
            rw [← hp] at hk hq hac ⊢
            clear hp hc1 hc3
            obtain ⟨f, hf⟩ : ∃ f, d.length + 1 - p = f + 1 := ⟨d.length - p, by have := HDL.out; omega⟩
            have HF := hid_of hf
            rw [hf] at hq
            clear hf
            have CL := hid_of (il_any wr b2 (some ⟨gA, oA, none⟩) nn c2 d o hrs.out)
            by_cases ho : o = nn
            · have HQ := hid_of (hq.out.trans (recs_end (ho.trans HDL.out.symm) acc))
              have hd0 : nn - o = 0 := by omega
              rw [hd0] at CL
              clear hd0 ho
              go_wp2_with (go_at_call 47; ((with_reducible refine (CL.out).mono ?_); (rintro e w2 ⟨rfl, ⟨m, rfl⟩⟩)))
              go_ret2
              have h9 := (hk.out.drewN m)
              exact Or.inl ⟨acc, aR, p, cR, HH.out.trans HQ.out, rfl, h9.rb, h9.bel⟩
            · obtain ⟨z, hz⟩ : ∃ z, z = nn - o := ⟨_, rfl⟩
              have hzp : (z : Int) > 0 := by omega
              have dz : decide ((z : Int) > 0) = true := decide_eq_true hzp
              have dz2 : decide ((0 : Int) < (z : Int)) = true := decide_eq_true hzp
              have dz3 : decide (0 < z) = true := decide_eq_true (by omega)
              rw [← hz] at CL
              have HO := hid_of (show o ≠ d.length by rw [HDL.out]; exact ho)
              have CB := hid_of (fun m => ib_any (wr.drewN m) b2 (some ⟨gA, oA, none⟩) nn c2 d (some o) (hrs.out.up (bel_drewN (Below.refl wr.heap.size _) m) hbl.out))
              have HON := hid_of ho
              clear hz ho hzp
              cases hd : decRun (d.drop o) with
              | none =>
                have HQ := hid_of (hq.out.trans (recs_stop HO.out hd acc))
                have ht : Wr.tR d (some o) = ([], none) := by simp only [Wr.tR, hd]
                rw [ht] at CB
                clear hd ht
                go_wp2_with (first
                  | (go_at_call 47; ((with_reducible refine (CL.out).mono ?_); (rintro e w2 ⟨rfl, ⟨m, rfl⟩⟩)))
                  | (go_at_call 48; ((with_reducible refine (CB.out m).mono ?_); (rintro e w3 ⟨x, k, c, rfl, q1, q2, q3, q4⟩)); have I3 := hid_of q3; have K3 := hid_of q4; have y3 := I3.out.bad.1; clear q1 q2 q3 q4))
                go_ret2
                exact Or.inr ⟨HH.out.trans HQ.out, rfl, ((hk.out.drewN m).kept HBW.out.1 K3.out).bel⟩
              | some y =>
                obtain ⟨k, n⟩ := y
                have hb := decRun_some' hd
                have hn1 := hb.2
                rw [List.length_drop] at hn1
                have hbd := Wr.decl_bound (fun y hy => HDR.out y (List.mem_of_mem_drop hy)) hb.1
                rw [List.length_drop] at hbd
                have HQ := hid_of (hq.out.trans (recs_more HO.out hd acc))
                have ht : Wr.tR d (some o) = ((d.drop (o + k)).take n, some (o + k + n)) := by simp only [Wr.tR, hd]
                rw [ht] at CB
                have hok : o + k + n ≤ nn := by have := HDL.out; omega
                have hk0 : 0 < k := hbd.1
                have hszN : ∀ m, (wr.drewN m).heap.size = wr.heap.size := fun _ => rfl
                obtain ⟨qq, hqq⟩ : ∃ qq, qq = (d.drop (o + k)).take n := ⟨_, rfl⟩
                rw [← hqq] at CB HQ
                obtain ⟨o2, ho2⟩ : ∃ o2, o2 = o + k + n := ⟨_, rfl⟩
                rw [← ho2] at CB HQ
                have HO2 := hid_of ho2
                clear hd hb hbd hn1 ht hqq ho2
                go_wp2_with (first
                  | (go_at_call 47; ((with_reducible refine (CL.out).mono ?_); (rintro e w2 ⟨rfl, ⟨m, rfl⟩⟩)))
                  | (go_at_call 48; ((with_reducible refine (CB.out m).mono ?_); (rintro e w3 ⟨xo, xk, xc, rfl, q1, q2, q3, q4⟩)); have I3 := hid_of q3; have K3 := hid_of q4; obtain ⟨_, _, y3⟩ := I3.out.at1; have X3 := hid_of (show CR (fun k => wr.heap.size ≤ k ∧ k < w3.heap.size) w3 (.slice xo xk xc) qq from ⟨q1, fun h0 a n c e => ⟨q2 (by have h8 := (rd_cut q1).1; rw [bs_len] at h8; omega) a n c e, rd_in q1 (by rw [bs_len]; exact h0) a n c e⟩⟩); have KK3 := hid_of ((hk.out.drewN m).kept HBW.out.1 q4); have OW3 := hid_of (show (w3.alloc (.cells #[.slice xo xk xc] 46)).ownsRow w.heap.size 46 1 (.slice aR p cR) p xs from by have h9 := KK3.out.own; rw [← HP.out] at h9; exact h9.alloc _); have HBS := KK3.out.bel.size; clear q1 q2 q3 q4)
                  | (at_builtin; (refine wpList_gen 34 46 (.slice none 0 0) 24 1 rowE.und rowE.info rowE.one (by decide) rfl _ _ rfl (B := w.heap.size) (v := .slice aR p cR) rfl OW3.out (by simp; omega) (vx := .slice (some ⟨w3.heap.size, 0, none⟩) 1 1) rfl (src_one w3 (.slice xo xk xc) rfl) (by omega) (by omega) ?_); intro ao2 cap2 w5 ga; have GA5 := hid_of ga; clear ga))
                have hb3 : b2 < w3.heap.size := Nat.lt_of_lt_of_le hbl.out K3.out.size
                have kr : ∀ q, q < w3.heap.size → (Value.slice aR p cR).ownBlock ≠ some q → w5.heap[q]? = w3.heap[q]? := fun q hq hv => (GA5.out.gr.block q (by simp; omega) (fun e => hv e.symm)).trans ((bel_alloc w3 _).block q hq)
                have hsz5 : w3.heap.size ≤ w5.heap.size := by have := GA5.out.gr.size; simp at this; omega
                have I5 := hid_of (I3.out.same HIN2.out hsz5 (kr b2 hb3 KK3.out.nb.1) (fun q hq hl => kr q hl (fun e => by have := (KK3.out.own.lt q e).1; omega)))
                have K5 := hid_of ((hk.out.drewN m).push2 HP.out ⟨HBW.out.1, hbl.out⟩ K3.out X3.out GA5.out)
                have HB5 := hid_of (Nat.lt_of_lt_of_le hb3 hsz5)
                have HM1 : Hid ((match w5.cell? ⟨b2, 1, none⟩ with | some (.int .i64 o) => (nn : Int) - o | _ => 0).toNat = nn - o2) := hid_of (by rw [I5.out.at1.1]; simp only []; omega)
                have HM0 : Hid ((match wr.cell? ⟨b2, 1, none⟩ with | some (.int .i64 o) => (nn : Int) - o | _ => 0).toNat = nn - o) := hid_of (by rw [HC1.out]; simp only []; omega)
                clear kr hb3
                go_roundw
                case rel => exact ⟨o2, _, _, by rw [List.length_append, List.length_singleton, ← HP.out, HO2.out]; omega, I5, K5, HB5, hid_of (by
                  rw [HQ.out, List.length_append, List.length_singleton, ← HP.out, show d.length + 1 - (p + 1) = f by have := HF.out; omega])⟩
                case measure => rw [HM1.out, HM0.out, HO2.out]; have := HON.out; omega
    · have es : sq ≠ jnB := fun e => hj ((strs_jn hnr).1 (hsq.symm.trans e))
      have e1 : (sq.toList == [106, 111, 117, 114, 110, 97, 108]) = false := beq_eq_false_iff_ne.2 (fun e => es (toList_inj (e.trans jnB_list.symm)))
      have HH : Hid (holdsF H A = none) := hid_of (by rw [holds_hd, hHF, if_neg hj]; rfl)
      clear r1 r2 b1 b2 hs1 hs2 hz hz' I2 CU hnm hst1 hnn hst2 hsq hnr hn1 hn2 hw1 hw2 sz2 hHF hj es SAA
      go_enter Try.func25, Try.ntmps25
      go_wp2_with (first
        | (go_at_call 44; rw [← HW1.out]; ((with_reducible refine (CZ.out).mono ?_); (rintro e w2 ⟨rfl, rfl⟩)))
        | (go_at_call 45; (try rw [sz1]); rw [← HW2.out]; ((with_reducible refine (CT.out).mono ?_); (rintro e w3 ⟨rfl, q1, q2⟩)); have I3 := hid_of q1; have B3 := hid_of (HKB.out _ _ q2 BE2.out); have K3 := hid_of q2; clear q1 q2)
        | (go_at_call 46; ((with_reducible refine (CU1.out w3 I3.out).mono ?_); (rintro e w4 ⟨rfl, q1, q2⟩)); have I4 := hid_of q1; have B4 := hid_of (HKB.out _ _ q2 B3.out); have K4 := hid_of q2; obtain ⟨c1', _, c3⟩ := I4.out.at1; have CZ2 := hid_of (CZ2G.out w4 B4.out); clear q1 q2))
      go_ret2
      exact Or.inr ⟨HH.out, rfl, B4.out⟩
end Go.Proofs.Ytofmijebinnejaa

/- The law's region: the head and the area, read. Bounds on sizes alone. -/
namespace Go.Proofs.Ytofmijebinnejaa
open Go.RowKit
set_option maxRecDepth 100000
set_option maxHeartbeats 6400000

theorem region_any {B : Nat} {T : Nat → Prop} {w : World} {b : Nat} {M : DM} (fs ct : Nat) (h : DR B T w b M) (hreg : fs + ct ≤ M.secs.length ∧ 2 ≤ ct) (ho : M.off = false) (hc : M.cache.length ≤ 1000000) (hg : RdOk M fs ct) (hs : ct ≤ 1000 ∧ M.sz ≤ 1000) :
    Calls Try.prog 24 #[.pointer (some ⟨b, 0, none⟩), .int .i64 fs, .int .i64 ct] w fun e w' => ∃ x1 n1 c1 x2 n2 c2, e = .returned (.tuple #[.slice x1 n1 c1, .slice x2 n2 c2]) ∧ Rd w' (.slice x1 n1 c1) (by8 (headC M fs)) ∧ Rd w' (.slice x2 n2 c2) (by8 (areaC M fs ct)) ∧ Below w.heap.size w w' := by
  obtain ⟨SD, hd, hSD⟩ := h
  have hok := IG.ok hd
  have hsec := hok.secs
  have CRD := hid_of (fun (X : World) (hX : Below w.heap.size w X) (s : Nat) (hs : s < M.secs.length) => show Calls Try.prog 33 #[.pointer (some ⟨b, 0, none⟩), .int .i64 s] X (fun e w' => ∃ x n c, e = .returned (.tuple #[.slice x n c, .int .i64 0]) ∧ Rd w' (.slice x n c) (by8 (readF M s).1) ∧ Below X.heap.size X w') from by
    have h1 := (IG.read (s : Int) ⟨by omega, by omega⟩ hc (IG.keep hd ⟨hX.size, fun k hk hl => hX.block k hl⟩)).mono fun e w' q => q.1
    have h2 : (readF M (s : Int)).2 = 0 := by
      have hf : M.fits s = true := by simp only [DM.fits, decide_eq_true_eq]; omega
      rw [readF, if_neg (by rw [hf]; simp), if_neg (by rw [ho]; simp)]
    rw [h2] at h1
    exact h1)
  have CR0 := hid_of (show Calls Try.prog 33 #[.pointer (some ⟨b, 0, none⟩), .int .i64 fs] w (fun e w' => ∃ x n c, e = .returned (.tuple #[.slice x n c, .int .i64 0]) ∧ Rd w' (.slice x n c) (by8 (headC M fs)) ∧ Below w.heap.size w w') from CRD.out w (Below.refl _ _) fs (by omega))
  have HAL := hid_of (fun (k : Nat) (hk : k ≤ ct - 1) => show (areaF (secC M fs) k).length = k * M.sz from areaF_len k fun i hi => hg.sl i (by omega))
  have HSL := hid_of hg.sl
  have HS := hid_of hs
  have HRG := hid_of hreg
  have HSC := hid_of hsec
  have ct9 : ct ≤ 1000 := hs.1
  have fs9 : fs ≤ 65536 := by omega
  clear hd hSD hok hc hg hs hreg hsec ho
  go_enter Try.func24, Try.ntmps24
  go_wp2_with (first
    | (go_at_call 33; ((with_reducible refine (CR0.out).mono ?_); (rintro e w1 ⟨x1, n1, c1, rfl, q1, q2⟩)); have H1 := hid_of q1; have B1 := hid_of q2; clear q1 q2))
  go_loopw [9, 10, 11] (fun ev av iv wr => ∃ (i : Nat) (ao : Option Addr) (m cap : Nat), 1 ≤ i ∧ i ≤ ct ∧ iv = .int .i64 i ∧ ev = .int .i64 0 ∧ av = .slice ao m cap ∧ Hid (EO w1 wr (.slice ao m cap) (areaF (secC M fs) (i - 1)))) (fun _ _ iv _ => ct - (intOf iv).toNat)
  case atStart => exact ⟨1, _, _, _, Nat.le_refl _, by have := HRG.out; omega, rfl, rfl, rfl, hid_of (by show EO w1 _ _ (areaF (secC M fs) 0); exact ow_empty _ _)⟩
  case round =>
    obtain ⟨i, ao, m, cap, hi1, hi, rfl, rfl, rfl, he⟩ := hrel
    by_cases hlt : i < ct
    · have d1 : decide (i < ct) = true := decide_eq_true hlt
      have hlt' : (i : Int) < (ct : Int) := by omega
      obtain ⟨sc, hsc⟩ : ∃ sc, sc = fs + i := ⟨_, rfl⟩
      have a1 := wrap_add hsc (by omega)
      have HB := hid_of (B1.out.trans (he.out.bel.mono B1.out.size))
      have CRS := hid_of (CRD.out wr HB.out sc (by have := HRG.out; omega))
      obtain ⟨q, hq⟩ : ∃ q, q = (readF M sc).1 := ⟨_, rfl⟩
      rw [← hq] at CRS
      have hqs : q = secC M fs (i - 1) := by rw [hq, secC, show fs + 1 + (i - 1) = sc by omega]
      have HQS := hid_of hqs
      have HNX : Hid (areaF (secC M fs) (i - 1) ++ q = areaF (secC M fs) i) := hid_of (by
        rw [hqs]
        conv => rhs; rw [show i = (i - 1) + 1 by omega]
        rfl)
      have HLT := hid_of hlt
      have HLN : Hid ((by8 (areaF (secC M fs) (i - 1))).length ≤ 1000000 ∧ (by8 q).length ≤ 1000) := hid_of (by
        have h1 := HAL.out (i - 1) (by omega)
        have h2 := HSL.out (i - 1) (by omega)
        have h3 := HS.out
        have h4 : (i - 1) * M.sz ≤ 1000 * 1000 := Nat.mul_le_mul (by omega) h3.2
        rw [by8_length, by8_length, h1, hqs, h2]
        omega)
      clear hq hqs hlt hsc
      go_wp2_with (first
        | (go_at_call 33; ((with_reducible refine (CRS.out).mono ?_); (rintro e w2 ⟨x2, n2, c2, rfl, q1, q2⟩)); have R2 := hid_of q1; have E2 := hid_of (EO.later he.out q2); clear q1 q2)
        | (at_builtin; (refine wpList_app u8E rfl _ _ rfl (v := .slice ao m cap) (l := by8 (areaF (secC M fs) (i - 1))) rfl E2.out (vx := .slice x2 n2 c2) (m := by8 q) rfl R2.out (by8_cells _) (by have := HLN.out; omega) (by have := HLN.out; omega) ?_); intro xo3 n3 c3 w3 hn3 h3; have E3 : Hid (EO w1 w3 (.slice xo3 n3 c3) (areaF (secC M fs) i)) := hid_of (by unfold EO; rw [← HNX.out, by8_app]; exact h3); clear h3 hn3))
      go_roundw
      case rel => exact ⟨i + 1, _, _, _, by omega, HLT.out, by go_num, rfl, rfl, E3⟩
      case measure => have := HLT.out; simp [intOf]; omega
    · obtain rfl : i = ct := by omega
      have d1 : decide (i < i) = false := by simp
      go_wp2
      go_ret2
      have hb := he.out.bel
      exact ⟨_, _, _, _, _, _, rfl, H1.out.at hb, he.out.rdd (by have := HAL.out (i - 1) (Nat.le_refl _); have h3 := HS.out; have h4 : (i - 1) * M.sz ≤ 1000 * 1000 := Nat.mul_le_mul (by omega) h3.2; omega), B1.out.trans (hb.mono B1.out.size)⟩
theorem RB.new {T : Nat → Prop} {X w' : World} {v : Value} {R : List (List Int)} (h : RB (fun k => X.heap.size ≤ k) w' v R) : RB (Tn T X w') w' v R := by
  obtain ⟨xs, p1, p2, p3, p4⟩ := h
  refine ⟨xs, p1, fun h0 a c d e2 => ?_, p3, fun i y l hy hl => ?_⟩
  · exact Or.inr ⟨p2 h0 a c d e2, p1.inlt h0 a c d e2⟩
  · exact (p4 i y l hy hl).lt.mono fun k hk => Or.inr hk
end Go.Proofs.Ytofmijebinnejaa

/- The law Holds. Bounds on sizes alone. -/
namespace Go.Proofs.Ytofmijebinnejaa
open Go.RowKit
set_option maxRecDepth 100000
set_option maxHeartbeats 12800000

theorem nil_keep (B : Nat) (w : World) : Rd w (.slice none 0 0) (bls []) ∧ (0 < (bls []).length → In (fun k => k < B) (.slice none 0 0)) := ⟨⟨none, 0, rfl, Nat.le_refl _, by omega, fun h => by simp [bls] at h⟩, fun h => by simp [bls] at h⟩
theorem holds_law (x y : Int) (a : Option Addr) (len cap : Nat) (l : List JX) (w : World) (w0 : (Lit.int .u8 x).wf = true) (w1 : (Lit.int .u8 y).wf = true) (w2 : JsIn w.heap.size w a len cap l) :
    Calls Try.prog 4 #[.int .u8 x, .int .u8 y, .slice a len cap] w (BoP true w) := by
  obtain ⟨x, rfl, hx⟩ := lw_num w0
  obtain ⟨y, rfl, hy⟩ := lw_num w1
  clear w0 w1
  obtain ⟨fb, hfb, CF⟩ := few_any w.heap.size a len cap l w w2
  have HCF := hid_of CF
  have AW := hid_of (fun w => awake_any w)
  cases fb with
  | false =>
    clear CF w2
    go_enter Try.func4, Try.ntmps4
    go_wp2_with (first
      | (go_at_call 11; ((with_reducible refine (HCF.out).mono ?_); (rintro e w1 ⟨rfl, rfl⟩)))
      | (go_at_call 12; ((with_reducible refine (AW.out _).mono ?_); (rintro e w2 ⟨rfl, h1⟩)); (have E2 := hid_of h1); clear h1))
    go_ret
    exact ⟨rfl, E2.out⟩
  | true =>
  have hF := hfb rfl
  have CSH := hid_of (fun X => shape_any x y hx hy X)
  obtain ⟨n, hn⟩ : ∃ n, n = 2 + x % 6 := ⟨_, rfl⟩
  obtain ⟨z, hz⟩ : ∃ z, z = 16 + y % 40 := ⟨_, rfl⟩
  rw [← hn, ← hz] at CSH
  have hn2 : 2 ≤ n ∧ n ≤ 7 := by omega
  have hz2 : 16 ≤ z ∧ z ≤ 55 := by omega
  obtain ⟨p, hp⟩ : ∃ p, p = n - 1 := ⟨_, rfl⟩
  obtain ⟨ar, har⟩ : ∃ ar, ar = p * z := ⟨_, rfl⟩
  have har2 : ar ≤ 6 * 55 := by rw [har]; exact Nat.mul_le_mul (by omega) hz2.2
  have s1 : IntKind.i64.wrap ((n : Int) - 1) = (p : Int) := by rw [show (n : Int) - 1 = (p : Int) by omega]; exact IntWalk.i64_in _ (by omega)
  have s2 : IntKind.i64.wrap ((p : Int) * (z : Int)) = (ar : Int) := by rw [← Int.natCast_mul, ← har]; exact IntWalk.i64_in _ (by omega)
  have HAR : Hid ((n - 1) * z = ar) := hid_of (by rw [har, hp])
  have CN := hid_of (fun X => dr_new n z (by omega) (by omega) hz2.1 (by omega) X)
  obtain ⟨B, hB⟩ : ∃ B, B = w.heap.size := ⟨_, rfl⟩
  have HIN := hid_of (fun (X : World) (h : Below B w X) => (show JsIn B X a len cap l by rw [hB] at h ⊢; exact w2.at h))
  have HLL := hid_of w2.1
  have hcap := w2.2.1.cut.2
  have CN2 := hid_of (show Calls Try.prog 14 #[.int .i64 n, .int .i64 z] w fun e w' => ∃ b, e = .returned (.tuple #[.pointer (some ⟨b, 0, none⟩), .int .i64 0]) ∧ DR B (fun k => k < B) w' b (newF n z) ∧ Below B w w' from by rw [hB]; exact CN.out w)
  have TN := hid_of (fun (X : World) (h : Below B w X) => show TR B (fun k => k < B) X from by have h9 := tr_new (w := w) (w' := X) (by have := h.size; omega); rwa [← hB] at h9)
  have CO := hid_of (fun (X : World) (b : Nat) (h : DR B (fun k => k < B) X b (newF n z)) (t : TR B (fun k => k < B) X) => lw_open n z hn2.1 hz2.1 h t)
  have HFM := hid_of (fun (x : JX) (hx : x ∈ l) => few_stream hF hx)
  have S0 : Hid (NF (newF n z) ∧ (newF n z).sz = z) := hid_of ⟨new_nf n z, rfl⟩
  have len9 : len ≤ 9223372036854775807 := by omega
  have COP := hid_of (fun (T : Nat → Prop) (X : World) (jb b : Nat) (M : DM) (R Xs : List (List Int)) (rs : Bool) (a2 : Option Addr) (n2 c2 : Nat) (h : JR B T X jb b M 0 n R true) (t : TR B T X) (hn : NF M ∧ M.sz = z) (hX : RB T X (.slice a2 n2 c2) Xs) (hb : ∀ r ∈ Xs, Byt r) (hl : (streamF Xs).length ≤ 6200) => show Calls Try.prog 17 #[.pointer (some ⟨jb, 0, none⟩), .agg #[.bool rs, .slice a2 n2 c2]] X (fun e w' => e = .returned (.int .i64 (nxtF R rs Xs ar).2) ∧ ∃ M', JR B T w' jb b M' 0 n (nxtF R rs Xs ar).1 true ∧ (NF M' ∧ M'.sz = z) ∧ Below B X w' ∧ Keeps T X w') from by
    refine (lw_op h t hn.1 rs Xs a2 n2 c2 hX hb hl).mono fun e w' ⟨q1, M', q2, q3, q4, _, q5, q6⟩ => ?_
    rw [hn.2, HAR.out] at q1 q2
    exact ⟨q1, M', q2, ⟨q3, q4.trans hn.2⟩, q5, q6⟩)
  have CRC := hid_of (fun (T : Nat → Prop) (X : World) (jb b : Nat) (M : DM) (R : List (List Int)) (wk : Bool) (h : JR B T X jb b M 0 n R wk) (t : TR B T X) => h.records t)
  have CSM := hid_of (fun (S1 S2 : Nat → Prop) (R : List (List Int)) (a1 : Option Addr) (n1 c1 : Nat) (a2 : Option Addr) (n2 c2 : Nat) (X : World) (h1 : RB S1 X (.slice a1 n1 c1) R) (h2 : RB S2 X (.slice a2 n2 c2) R) => show Calls Try.prog 18 #[.slice a1 n1 c1, .slice a2 n2 c2] X (fun e w' => e = .returned (.bool true) ∧ Below X.heap.size X w') from (same_any S1 S2 R R a1 n1 c1 a2 n2 c2 X h1 h2).mono fun e w' ⟨x, q1, q2, q3⟩ => ⟨by rw [q1, q2 rfl], q3⟩)
  have CRG := hid_of (fun (T : Nat → Prop) (X : World) (jb b : Nat) (M : DM) (R : List (List Int)) (h : JR B T X jb b M 0 n R true) (hz : M.sz = z) => show Calls Try.prog 24 #[.pointer (some ⟨b, 0, none⟩), .int .i64 0, .int .i64 n] X (fun e w' => ∃ x1 n1 c1 x2 n2 c2, e = .returned (.tuple #[.slice x1 n1 c1, .slice x2 n2 c2]) ∧ Rd w' (.slice x1 n1 c1) (by8 (headC M 0)) ∧ Rd w' (.slice x2 n2 c2) (by8 (areaC M 0 n)) ∧ Below X.heap.size X w') from by
    have g := h.live rfl
    exact region_any 0 n h.disk h.fit.reg g.on (by have := h.cch; omega) (rd_ok h.fit.ok h.rM g.clean g.on h.fit.reg) (by omega))
  have CHO := hid_of (fun (T : Nat → Prop) (X : World) (jb b : Nat) (M : DM) (R : List (List Int)) (h : JR B T X jb b M 0 n R true) (hz : M.sz = z) (a1 : Option Addr) (n1 c1 : Nat) (a2 : Option Addr) (n2 c2 : Nat) (r1 : Rd X (.slice a1 n1 c1) (by8 (headC M 0))) (r2 : Rd X (.slice a2 n2 c2) (by8 (areaC M 0 n))) => show Calls Try.prog 25 #[.slice a1 n1 c1, .slice a2 n2 c2] X (fun e w' => ∃ x m c, e = .returned (.tuple #[.slice x m c, .bool true]) ∧ RB (Tn T X w') w' (.slice x m c) R ∧ Below X.heap.size X w') from by
    have g := h.live rfl
    have k := rd_ok h.fit.ok h.rM g.clean g.on h.fit.reg
    have hal := k.al
    have hhl := k.hl
    have h3 : (n - 1) * M.sz ≤ 6 * 55 := Nat.mul_le_mul (by omega) (by omega)
    have h4 : 1 * 16 ≤ (n - 1) * M.sz := Nat.mul_le_mul (by omega) (by omega)
    have hy : holdsF (headC M 0) (areaC M 0 n) = some R := by rw [holds_rd g.clean g.on h.fit.reg]; exact g.holds h.fit
    refine (rholds_any _ _ a1 n1 c1 a2 n2 c2 X r1 r2 k.hr k.ar (by omega) (by omega) (by omega)).mono fun e w' q => ?_
    rcases q with ⟨R', x, m, c, e1, e2, e3, e4⟩ | ⟨e1, _⟩
    · rw [hy] at e1
      cases e1
      exact ⟨x, m, c, e2, e3.new, e4⟩
    · rw [hy] at e1; cases e1)
  have COY := hid_of (fun (T : Nat → Prop) (X : World) (jb b : Nat) (M : DM) (R : List (List Int)) (h : JR B T X jb b M 0 n R true) (t : TR B T X) => show Calls Try.prog 15 #[.pointer (some ⟨b, 0, none⟩), .int .i64 0, .int .i64 n] X (fun e w' => ∃ jb, e = .returned (.tuple #[.pointer (some ⟨jb, 0, none⟩), .int .i64 0]) ∧ JR B T w' jb b M 0 n R true ∧ Below X.heap.size X w') from by
    have g := h.live rfl
    exact h.disk.opened (fs := 0) (ct := n) t h.fit.reg h.fit.sz h.rM g.clean g.on (g.holds h.fit))
  have CCR := hid_of (fun (T : Nat → Prop) (X : World) (jb b : Nat) (M : DM) (R : List (List Int)) (h : JR B T X jb b M 0 n R true) (t : TR B T X) => show Calls Try.prog 23 #[.pointer (some ⟨b, 0, none⟩), .slice none 0 0] X (fun e w' => e = .returned (.tuple #[]) ∧ JR B T w' jb b (crashF M []) 0 n R true ∧ Below B X w' ∧ Keeps T X w') from h.crash t none 0 0 [] (nil_keep B X))
  have CCH := hid_of (fun (T : Nat → Prop) (X : World) (jb b : Nat) (M : DM) (R : List (List Int)) (h : JR B T X jb b (crashF M []) 0 n R true) => show Calls Try.prog 26 #[.pointer (some ⟨b, 0, none⟩)] X (fun e w' => e = .returned (.int .i64 0) ∧ Below X.heap.size X w') from h.disk.cached)
  rw [show BoP true w = fun e w' => e = .returned (.bool true) ∧ Below B w w' from by rw [hB]; rfl]
  clear CF w2 hF hfb hn hz hp har hB hcap CN
  go_enter Try.func4, Try.ntmps4
  go_wp2_with (first
    | (go_at_call 11; ((with_reducible refine (HCF.out).mono ?_); (rintro e w1 ⟨rfl, rfl⟩)))
    | (go_at_call 13; ((with_reducible refine (CSH.out _).mono ?_); (rintro e w1 ⟨rfl, rfl⟩)))
    | (go_at_call 14; ((with_reducible refine (CN2.out).mono ?_); (rintro e w1 ⟨b, rfl, q1, q2⟩)); have D1 := hid_of q1; have B1 := hid_of q2; have T1 := hid_of (TN.out w1 q2); clear q1 q2)
    | (go_at_call 15; ((with_reducible refine (CO.out w1 b D1.out T1.out).mono ?_); (rintro e w2 ⟨jb, rfl, q1, q2⟩)); have J2 := hid_of q1; have B2 := hid_of (B1.out.trans (q2.mono T1.out.hB)); have T2 := hid_of (T1.out.same q2.size); clear q1 q2))
  go_loopw [13] (fun iv wr => ∃ (i : Nat) (R : List (List Int)) (M : DM) (T : Nat → Prop), i ≤ len ∧ iv = .int .i64 i ∧ Hid (JR B T wr jb b M 0 n R true) ∧ Hid (TR B T wr) ∧ Hid (NF M ∧ M.sz = z) ∧ Hid (Below B w wr)) (fun iv _ => len - (intOf iv).toNat)
  case atStart => exact ⟨0, [], newF n z, (fun k => k < B), Nat.zero_le _, rfl, J2, T2, S0, B2⟩
  case round =>
    obtain ⟨i, R, M, T, hi, rfl, hJ, hT, hN, hb⟩ := hrel
    by_cases hlt : i < len
    · have d1 : decide (i < len) = true := decide_eq_true hlt
      have hlt' : (i : Int) < (len : Int) := by omega
      obtain ⟨g, o, x, xb, xn, xc, hx, rfl, hv, c0, c1, hok, hxn, hc1, hc2⟩ := (HIN.out wr hb.out).get hlt
      have HX := hid_of (List.mem_of_getElem? hx)
      have HOK := hid_of hok
      have HXR := hid_of (JX.t hok hv hT.out)
      have HXB := hid_of hok.2
      have HLT := hid_of hlt
      have HFX := hid_of (HFM.out x HX.out)
      have HCL := hid_of (fun (X : World) (hX : Below B w X) => show X.cell? ⟨g, o + i * 2, none⟩ = some (.bool x.rs) ∧ X.cell? ⟨g, o + i * 2 + 1, none⟩ = some (.slice xb xn xc) from by
        obtain ⟨g', o', x', xb', xn', xc', hx', e', hv', c0', c1', _⟩ := (HIN.out X hX).get hlt
        simp only [Option.some.injEq, Addr.mk.injEq] at e'
        obtain ⟨rfl, rfl, _⟩ := e'
        rw [hx] at hx'
        cases hx'
        rw [hv] at hv'
        cases hv'
        exact ⟨c0', c1'⟩)
      have xn9 : xn ≤ 9223372036854775807 := by have := (JX.t hok hv hT.out).len.2; omega
      obtain ⟨rs, hrs⟩ : ∃ rs, rs = x.rs := ⟨_, rfl⟩
      rw [← hrs] at c0 HCL
      obtain ⟨R2, hR2⟩ : ∃ R2, R2 = (nxtF R rs x.xs ar).1 := ⟨_, rfl⟩
      obtain ⟨cd, hcd⟩ : ∃ cd, cd = (nxtF R rs x.xs ar).2 := ⟨_, rfl⟩
      have CP := hid_of (COP.out T wr jb b M R x.xs rs xb xn xc hJ.out hT.out hN.out HXR.out HXB.out HFX.out)
      rw [← hR2, ← hcd] at CP
      clear hx hok hxn hrs hR2 hcd hlt hv
      go_wp2_with (first
        | (go_at_call 17; ((with_reducible refine (CP.out).mono ?_); (rintro e w3 ⟨rfl, ⟨M3, q1, q2, q3, q4⟩⟩)); have J3 := hid_of q1; have N3 := hid_of q2; have B3 := hid_of (hb.out.trans q3); have T3 := hid_of (hT.out.same q4.1); clear q1 q2 q3 q4)
        | (go_at_call 23; ((with_reducible refine (CCR.out T w3 jb b M3 R2 J3.out T3.out).mono ?_); (rintro e w4 ⟨rfl, q1, q2, q3⟩)); have J4 := hid_of q1; have T4 := hid_of (T3.out.same q3.1); have B4 := hid_of (B3.out.trans q2); have Z4 := hid_of (show (crashF M3 []).sz = z from N3.out.2); have N4 := hid_of (show NF (crashF M3 []) ∧ (crashF M3 []).sz = z from ⟨⟨rfl, rfl⟩, N3.out.2⟩); clear q1 q2 q3)
        | (go_at_call 24; ((with_reducible refine (CRG.out T w4 jb b _ R2 J4.out Z4.out).mono ?_); (rintro e w5 ⟨h1, hn1, hc1', h2, hn2', hc2', rfl, q1, q2, q3⟩)); have G1 := hid_of q1; have G2 := hid_of q2; have J5 := hid_of (J4.out.bel0 T4.out q3); have T5 := hid_of (T4.out.same q3.size); have B5 := hid_of (B4.out.trans (q3.mono T4.out.hB)); clear q1 q2 q3)
        | (go_at_call 25; ((with_reducible refine (CHO.out T w5 jb b _ R2 J5.out Z4.out h1 hn1 hc1' h2 hn2' hc2' G1.out G2.out).mono ?_); (rintro e w6 ⟨lo, ln, lc, rfl, q1, q2⟩)); have L6 := hid_of q1; have J6 := hid_of (J5.out.bel q2); have T6 := hid_of (T5.out.next q2.size); have B6 := hid_of (B5.out.trans (q2.mono T5.out.hB)); clear q1 q2)
        | (go_at_call 19; ((with_reducible refine (CRC.out _ w6 jb b _ R2 true J6.out T6.out).mono ?_); (rintro e w7 ⟨ro, rn, rc, rfl, q1, q2⟩)); have Q7 := hid_of q1; have L7 := hid_of (L6.out.bel q2); have J7 := hid_of (J6.out.bel0 T6.out q2); have T7 := hid_of (T6.out.same q2.size); have B7 := hid_of (B6.out.trans (q2.mono T6.out.hB)); clear q1 q2)
        | (go_at_call 18; ((with_reducible refine (CSM.out _ _ R2 lo ln lc ro rn rc w7 L7.out Q7.out).mono ?_); (rintro e w8 ⟨rfl, q2⟩)); have L8 := hid_of (L7.out.bel q2); have J8 := hid_of (J7.out.bel0 T7.out q2); have T8 := hid_of (T7.out.same q2.size); have B8 := hid_of (B7.out.trans (q2.mono T7.out.hB)); clear q2)
        | (go_at_call 15; ((with_reducible refine (COY.out _ w8 jb b _ R2 J8.out T8.out).mono ?_); (rintro e w9 ⟨kb, rfl, q1, q2⟩)); have K9 := hid_of q1; have L9 := hid_of (L8.out.bel q2); have J9 := hid_of (J8.out.bel0 T8.out q2); have T9 := hid_of (T8.out.same q2.size); have B9 := hid_of (B8.out.trans (q2.mono T8.out.hB)); clear q1 q2)
        | (go_at_call 19; ((with_reducible refine (CRC.out _ w9 kb b _ R2 true K9.out T9.out).mono ?_); (rintro e wA ⟨so, sn, sc, rfl, q1, q2⟩)); have QA := hid_of q1; have LA := hid_of (L9.out.bel q2); have JA := hid_of (J9.out.bel0 T9.out q2); have TA := hid_of (T9.out.same q2.size); have BA := hid_of (B9.out.trans (q2.mono T9.out.hB)); clear q1 q2)
        | (go_at_call 18; ((with_reducible refine (CSM.out _ _ R2 so sn sc lo ln lc wA QA.out LA.out).mono ?_); (rintro e wB ⟨rfl, q2⟩)); have JB := hid_of (JA.out.bel0 TA.out q2); have TB := hid_of (TA.out.same q2.size); have BB := hid_of (BA.out.trans (q2.mono TA.out.hB)); clear q2)
        | (go_at_call 26; ((with_reducible refine (CCH.out _ wB jb b M3 R2 JB.out).mono ?_); (rintro e wC ⟨rfl, q2⟩)); have JC := hid_of (JB.out.bel0 TB.out q2); have TC := hid_of (TB.out.same q2.size); have BC := hid_of (BB.out.trans (q2.mono TB.out.hB)); clear q2))
      go_roundw
      case rel => exact ⟨i + 1, R2, _, _, HLT.out, by go_num, JC, TC, N4, BC⟩
      case measure => have := HLT.out; simp [intOf]; omega
    · have d1 : decide (i < len) = false := decide_eq_false hlt
      go_wp2_with (first
        | (go_at_call 12; ((with_reducible refine (AW.out _).mono ?_); (rintro e w9 ⟨rfl, h1⟩)); (have E9 := hid_of (hb.out.trans (h1.mono hT.out.hB))); clear h1))
      go_ret
      exact ⟨rfl, E9.out⟩
end Go.Proofs.Ytofmijebinnejaa
