/- Decode of package lattice, of a description of the kind Max. Bounds on sizes alone. -/
import Derived.Test.YtoogcafceghdjaaLatRmx
namespace Go.Proofs.Ytoogcafceghdjaa
open Go.RowKit

theorem lo_leaf (k lo hi : Int) (rk : R64 k) (rlo : R64 lo) (rhi : R64 hi) (w : World) : LO w k lo hi none 0 0 none 0 0 none 0 0 ⟨k, lo, hi, [], [], []⟩ :=
  ⟨rfl, rfl, rfl, rk, rlo, rhi, ⟨none, 0, rfl, Nat.le_refl _, by omega, fun h => by simp [ss, Lat.ns] at h⟩, by intro y hy; simp [Lat.ns] at hy, rfl, lds_nil w, rfl, rur_nil w, by intro y hy; simp [Lat.rs] at hy, rfl⟩
set_option maxRecDepth 100000 in
set_option maxHeartbeats 3200000 in
theorem decmax_any (ao : Option Addr) (cap k1 k2 k3 n1 n2 : Nat) (d : List Int) (w : World) (hr : ∀ x ∈ d, 0 ≤ x ∧ x ≤ 255) (hl : d.length ≤ 140737488351232)
    (hpos : 0 < d.length → ∃ ad, ao = some ad ∧ ∀ w', Below w.heap.size w w' → ∀ j v, (Wr.bs d)[j]? = some v → w'.cell? (ad.add j) = some v)
    (h1 : Wr.dec (d.drop 0) = some (2, k1)) (h2 : Wr.dec (d.drop (0 + k1)) = some (n1, k2)) (h3 : Wr.dec (d.drop (0 + k1 + k2)) = some (n2, k3)) (hend : 0 + k1 + k2 + k3 = d.length)
    (r1 : R64 (Wr.unzig n1)) (r2 : R64 (Wr.unzig n2)) (hok : chkL ⟨2, Wr.unzig n1, Wr.unzig n2, [], [], []⟩ = 0) :
    Calls Try.prog 9 #[.slice ao d.length cap] w fun e w' => e = .returned (.tuple #[.agg #[.int .i64 2, .int .i64 (Wr.unzig n1), .int .i64 (Wr.unzig n2), .slice none 0 0, .slice none 0 0, .slice none 0 0], .int .i64 0]) ∧ Below w.heap.size w w' := by
  have HBW := hid_of (bel_alloc w (.cells #[.int .i64 0, .int .i64 0, .int .i64 0, .slice none 0 0, .slice none 0 0, .slice none 0 0] 26))
  have NR := hid_of (Wr.newReader_any ao d cap (w.alloc (.cells #[.int .i64 0, .int .i64 0, .int .i64 0, .slice none 0 0, .slice none 0 0, .slice none 0 0] 26)) hr hl (fun h0 => by obtain ⟨ad, e, hc⟩ := hpos h0; exact ⟨ad, e, hc _ HBW.out⟩))
  have RD : Hid (∀ b g w2, Wr.Rst w2 b g d 0 0 0 → Calls Try.prog 24 #[.pointer (some ⟨b, 0, none⟩), .int .i64 1] w2 fun e w' => e = .returned (.agg #[.int .i64 2, .int .i64 (Wr.unzig n1), .int .i64 (Wr.unzig n2), .slice none 0 0, .slice none 0 0, .slice none 0 0]) ∧ Wr.Rst w' b g d d.length (0 + k1 + k2) 0 ∧ Wr.Kept (fun k => k = b) w2 w') := hid_of (fun b g w2 h => by
    have := readmax_any b g k1 k2 k3 n1 n2 d w2 h h1 h2 h3
    rw [hend] at this
    exact this)
  have EN : Hid (∀ b g last w2, Wr.Rst w2 b g d d.length last 0 → Calls Try.prog 25 #[.pointer (some ⟨b, 0, none⟩)] w2 fun e w' => e = .returned (.int .i64 0) ∧ ∃ m, w' = w2.drewN m) := hid_of (fun b g last w2 h => Wr.end_ok b g d.length last d w2 h rfl)
  have CH : Hid (∀ w2, Calls Try.prog 13 #[.agg #[.int .i64 2, .int .i64 (Wr.unzig n1), .int .i64 (Wr.unzig n2), .slice none 0 0, .slice none 0 0, .slice none 0 0]] w2 (ErP 0 w2)) := hid_of (fun w2 => by
    have := check_any _ 2 (Wr.unzig n1) (Wr.unzig n2) none 0 0 none 0 0 none 0 0 w2 (lo_leaf 2 _ _ ⟨by omega, by omega⟩ r1 r2 w2)
    rwa [hok] at this)
  have LX1 : Hid ((#[.int .i64 2, .int .i64 (Wr.unzig n1), .int .i64 (Wr.unzig n2), .slice none 0 0, .slice none 0 0, .slice none 0 0] : Array Value).all (·.oneCell') = true) := hid_of (by simp [Value.oneCell'])
  clear hr hpos h1 h2 h3 hend r1 r2 hok
  go_enter Try.func9, Try.ntmps9
  go_wp2_with (first
    | (go_at_call 23; ((with_reducible refine (NR.out).mono ?_); (rintro e w1 ⟨b, g, rfl, q1, q2, q3, q4⟩); (have R1 := hid_of q1); (have B1 := hid_of q2); (have B3 := hid_of q3); (have Z1 : Hid (w1.heap[w.heap.size]? = some (.cells [.int .i64 0, .int .i64 0, .int .i64 0, .slice none 0 0, .slice none 0 0, .slice none 0 0].toArray 26 (0, 0))) := hid_of ((q2.block _ (by simp)).trans (heap_alloc_new w _))); clear q1 q2 q3 q4))
    | (go_at_call 24; ((with_reducible refine (RD.out b g w1 R1.out).mono ?_); (rintro e w2 ⟨rfl, q1, q2⟩); (have R2 := hid_of q1); (have K2 := hid_of q2); clear q1 q2))
    | (go_at_call 25; ((with_reducible refine (EN.out b g (0 + k1 + k2) (w2.alloc (.cells #[.int .i64 2, .int .i64 (Wr.unzig n1), .int .i64 (Wr.unzig n2), .slice none 0 0, .slice none 0 0, .slice none 0 0] 26)) (R2.out.same ((bel_alloc w2 _).block _ R2.out.blt) ((bel_alloc w2 _).block _ R2.out.glt))).mono ?_); (rintro e w3 ⟨rfl, m, rfl⟩)))
    | (go_at_call 13; ((with_reducible refine (CH.out _).mono ?_); (rintro e w4 ⟨rfl, q1⟩); (have B4 : Hid (Below (w2.alloc (.cells #[.int .i64 2, .int .i64 (Wr.unzig n1), .int .i64 (Wr.unzig n2), .slice none 0 0, .slice none 0 0, .slice none 0 0] 26)).heap.size (w2.alloc (.cells #[.int .i64 2, .int .i64 (Wr.unzig n1), .int .i64 (Wr.unzig n2), .slice none 0 0, .slice none 0 0, .slice none 0 0] 26)) w4) := hid_of ⟨q1.os, q1.tape, q1.output, q1.size, q1.block⟩); (have Z4 : Hid (w4.heap[w.heap.size]? = some (.cells [.int .i64 0, .int .i64 0, .int .i64 0, .slice none 0 0, .slice none 0 0, .slice none 0 0].toArray 26 (0, 0))) := hid_of ((B4.out.block _ (by have := K2.out.size; have := B1.out.size; simp at *; omega)).trans (((bel_alloc w2 _).block _ (by have := K2.out.size; have := B1.out.size; simp at *; omega)).trans ((K2.out.block _ (by have := B1.out.size; simp at *; omega) (by have := B3.out; simp at *; omega)).trans Z1.out)))); (obtain ⟨y0, y1, y2, y3, y4, y5⟩ := box6 2 (Wr.unzig n1) (Wr.unzig n2) none 0 0 none 0 0 none 0 0 B4.out); clear q1))
    | (refine wpList_store_row rfl 26 (.tmp 2) (.tmp 19) rfl w.heap.size #[.int .i64 2, .int .i64 (Wr.unzig n1), .int .i64 (Wr.unzig n2), .slice none 0 0, .slice none 0 0, .slice none 0 0] rfl rfl 26 _ Z4.out infoLat rfl LX1.out ?_))
  refine bodyPost_ret (res_ct rfl w.heap.size rfl (setRow_heap _ _ _ #[.int .i64 2, .int .i64 (Wr.unzig n1), .int .i64 (Wr.unzig n2), .slice none 0 0, .slice none 0 0, .slice none 0 0] _ _ Z4.out) Try.underlying26 rfl infoLat) rfl ⟨rfl, ?_⟩
  have x1 : Below w.heap.size w w1 := HBW.out.trans (B1.out.mono (by simp))
  have x2 : Below w.heap.size w w2 := x1.trans ⟨K2.out.os, K2.out.tape, K2.out.output, K2.out.size, fun k hk => K2.out.block k (by have := x1.size; omega) (by have := B3.out; simp at this; omega)⟩
  exact below_setRow ((x2.trans ((bel_alloc w2 _).mono x2.size)).trans (B4.out.mono (by have := x2.size; simp; omega))) (Nat.le_refl _) _
end Go.Proofs.Ytoogcafceghdjaa
