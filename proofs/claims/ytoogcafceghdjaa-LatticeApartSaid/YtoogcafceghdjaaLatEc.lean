/- Encode of package lattice. Bounds on sizes alone. -/
import Derived.Test.YtoogcafceghdjaaLatWr
import Derived.Test.YtoogcafceghdjaaLatAwk
namespace Go.Proofs.Ytoogcafceghdjaa
open Go.RowKit

def By (l : List Int) : Prop := ∀ y ∈ l, 0 ≤ y ∧ y ≤ 255
theorem By.app {l m : List Int} (h : By l) (h2 : By m) : By (l ++ m) := fun y hy => (List.mem_append.1 hy).elim (h y) (h2 y)
theorem By.nil : By [] := fun y hy => by cases hy
theorem by_enc (n : Nat) : By (Wr.enc n) := Wr.enc_byte n
theorem by_tx (x : Str) : By (txE x) := (by_enc _).app fun y hy => by
  unfold Wr.strBytes at hy
  obtain ⟨c, _, rfl⟩ := List.mem_map.1 hy
  have := c.toNat_lt
  omega
theorem by_flat {α : Type} {f : α → List Int} {l : List α} (h : ∀ x ∈ l, By (f x)) : By (l.flatMap f) := fun y hy => by
  obtain ⟨x, hx, hy⟩ := List.mem_flatMap.1 hy
  exact h x hx y hy
theorem by_ns (l : List Str) : By (nsE l) := (by_enc _).app (by_flat fun x _ => by_tx x)
theorem by_rs (l : List Gr) : By (rsE l) := (by_enc _).app (by_flat fun r _ => (by_ns r.1).app (by_tx r.2))
theorem by_ps : ∀ (ns : List Str) (ps : List Lat), (∀ p ∈ ps, By (encL p)) → By (encPs ns ps)
  | [], ps, _ => by rw [encPs_nil]; exact .nil
  | _ :: _, [], _ => by rw [encPs]; exact .nil
  | n :: ns, p :: ps, h => by
    rw [encPs_cons]
    exact ((by_tx n).app (h p (by simp))).app (by_ps ns ps fun q hq => h q (by simp [hq]))
theorem encL_byte : ∀ t, By (encL t) := by
  refine lat_ind ?_
  intro k lo hi ns ps rs ih
  rw [encL]
  refine (by_enc _).app ?_
  split
  · exact (by_enc _).app (by_enc _)
  · split
    · exact by_ns ns
    · split
      · refine (by_ns ns).app ?_
        rw [encLs_map]; exact by_flat ih
      · split
        · exact (by_enc _).app (by_ps ns ps ih)
        · split
          · rw [encLs_map]; exact by_flat ih
          · split
            · exact (by_ns ns).app (by_rs rs)
            · exact .nil
/-- The bytes of a list as a string, and back. -/
def strU (l : List Int) : Str := l.map fun n => UInt8.ofNat n.toNat
theorem strU_ba (l : List Int) : strOfNums l = ba (strU l) := rfl
theorem strU_inj {l m : List Int} (h : By l) (h2 : By m) (e : strU l = strU m) : l = m := by
  have hx : ∀ z : List Int, By z → (strU z).map (fun c => (c.toNat : Int)) = z := fun z hz => by
    unfold strU
    rw [List.map_map]
    refine (List.map_congr_left (fun y hy => ?_)).trans (List.map_id z)
    have := hz y hy
    simp only [Function.comp, UInt8.toNat_ofNat', id]
    omega
  rw [← hx l h, ← hx m h2, e]
theorem enc_bound {t : Lat} (h : chkL t = 0) : (encL t).length ≤ 30000000000 := by
  have h1 := encL_len t (okay_of t 1 0 h)
  have h2 := (parts_ok h).1
  have h3 : 10 ^ depthL t ≤ 10 ^ 6 := Nat.pow_le_pow_right (by omega) h2
  have h4 := Nat.mul_le_mul_left 30000 h3
  have h5 : 30000 * 10 ^ 6 = 30000000000 := by decide
  omega
set_option maxRecDepth 100000 in
set_option maxHeartbeats 3200000 in
theorem encode_any (t : Lat) (k lo hi : Int) (an : Option Addr) (nn cn : Nat) (ap : Option Addr) (np cp : Nat) (ar : Option Addr) (nr cr : Nat) (w : World) (H : LO w k lo hi an nn cn ap np cp ar nr cr t) (hok : chkL t = 0) (M : List Int) (hM : M = encL t) :
    Calls Try.prog 8 #[.agg #[.int .i64 k, .int .i64 lo, .int .i64 hi, .slice an nn cn, .slice ap np cp, .slice ar nr cr]] w fun e w' => ∃ g, e = .returned (.slice (some ⟨g, 0, none⟩) M.length M.length) ∧ w'.heap[g]? = some (.cells (Wr.bs M).toArray 5 (0, 0)) ∧ Below w.heap.size w w' ∧ w.heap.size ≤ g := by
  have HBW := hid_of (bel_alloc w (.cells #[.int .i64 k, .int .i64 lo, .int .i64 hi, .slice an nn cn, .slice ap np cp, .slice ar nr cr] 26))
  have CH := hid_of (check_any t k lo hi an nn cn ap np cp ar nr cr (w.alloc (.cells #[.int .i64 k, .int .i64 lo, .int .i64 hi, .slice an nn cn, .slice ap np cp, .slice ar nr cr] 26)) (H.at HBW.out))
  rw [hok] at CH
  have HC : Hid (∀ w', Below (w.alloc (.cells #[.int .i64 k, .int .i64 lo, .int .i64 hi, .slice an nn cn, .slice ap np cp, .slice ar nr cr] 26)).heap.size (w.alloc (.cells #[.int .i64 k, .int .i64 lo, .int .i64 hi, .slice an nn cn, .slice ap np cp, .slice ar nr cr] 26)) w' → _) := hid_of (fun w' h => box6 k lo hi an nn cn ap np cp ar nr cr h)
  have HML : Hid (M.length ≤ 30000000000) := hid_of (by rw [hM]; exact enc_bound hok)
  have WM : Hid (∀ w2 : World, Below w.heap.size w w2 → Calls Try.prog 21 #[.pointer (some ⟨w2.heap.size, 0, none⟩), .agg #[.int .i64 k, .int .i64 lo, .int .i64 hi, .slice an nn cn, .slice ap np cp, .slice ar nr cr]] (w2.alloc (.cells #[.slice none 0 0] 44)) fun e w' => e = .returned (.tuple #[]) ∧ ∃ v', Wr.Wst w2.heap.size w2.heap.size w' v' M ∧ Below w2.heap.size w2 w') := hid_of (fun w2 h2 => by
    have hw : Wr.Wst w2.heap.size w2.heap.size (w2.alloc (.cells #[.slice none 0 0] 44)) (.slice none 0 0) [] := ⟨heap_alloc_new _ _, World.ownsRow_nil _ _ _ _⟩
    have hb := bel_alloc w2 (.cells #[.slice none 0 0] 44)
    refine (write_any w2 w2.heap.size t (okay_of t 1 0 hok) k lo hi an nn cn ap np cp ar nr cr _ _ _ (H.at h2) hb (Nat.le_refl _) hw (by rw [← hM, List.length_nil]; have := HML.out; omega)).mono ?_
    rintro e w' ⟨rfl, k⟩
    obtain ⟨v', k1, _⟩ := k.ex
    rw [List.nil_append, ← hM] at k1
    exact ⟨rfl, v', k1, hb.trans k.bel⟩)
  clear hM H
  go_enter Try.func8, Try.ntmps8
  go_wp2_with (first
    | (go_at_call 13; ((with_reducible refine (CH.out).mono ?_); (rintro e w2 ⟨rfl, h2⟩); (have H2 := hid_of h2); (have HX2 := hid_of (HBW.out.trans (h2.mono HBW.out.size))); (obtain ⟨p0, p1, p2, p3, p4, p5⟩ := HC.out (w2.alloc (.cells #[.slice none 0 0] 44)) (h2.alloc h2.size _)); clear h2))
    | (go_at_call 21; ((with_reducible refine (WM.out w2 HX2.out).mono ?_); (rintro e w3 ⟨rfl, v3, h3, h4⟩); (have W3 := hid_of h3); (have H4 := hid_of h4); (have DT := hid_of (Wr.data_any w2.heap.size w2.heap.size v3 M w3 h3 (by have := HML.out; omega))); clear h3 h4))
    | (go_at_call 22; ((with_reducible refine (DT.out).mono ?_); (rintro e w4 ⟨rfl, h3, h4⟩); (have R4 := hid_of h3); (have H5 := hid_of h4); clear h3 h4)))
  go_ret
  have hx2 : Below w.heap.size w w2 := HBW.out.trans (H2.out.mono HBW.out.size)
  have hx3 : Below w.heap.size w w3 := hx2.trans (H4.out.mono hx2.size)
  exact ⟨_, rfl, R4.out, hx3.trans (H5.out.mono hx3.size), hx3.size⟩
end Go.Proofs.Ytoogcafceghdjaa
