/- Encode and Decode of package clock. Bounds on sizes. -/
import Derived.Test.YtofgmimdmgaljaaClkCmp
import Derived.Test.YtofgmimdmgaljaaWireR30
namespace Go.Proofs.Ytofgmimdmgaljaa
open Go.RowKit

/-- The slice v reads as the bytes l. -/
def BR (w : World) (v : Value) (l : List Int) : Prop :=
  ∃ ao cap, v = .slice ao l.length cap ∧ l.length ≤ cap ∧ cap ≤ 9223372036854775807 ∧ (0 < l.length → ∃ g o, ao = some ⟨g, o, none⟩ ∧ g < w.heap.size ∧ ∀ j u, (Wr.bs l)[j]? = some u → w.cell? ⟨g, o + j, none⟩ = some u)
theorem BR.later {w w' : World} {v : Value} {l : List Int} {B : Nat} (h : BR w v l) (hb : Below B w w') (hB : w.heap.size ≤ B) : BR w' v l := by
  obtain ⟨ao, cap, h1, h2, h3, h4⟩ := h
  refine ⟨ao, cap, h1, h2, h3, fun h0 => ?_⟩
  obtain ⟨g, o, q1, q2, q3⟩ := h4 h0
  exact ⟨g, o, q1, Nat.lt_of_lt_of_le q2 hb.size, fun j u hu => (hb.cell (p := ⟨g, o + j, none⟩) (by show g < B; omega)).trans (q3 j u hu)⟩
theorem br_row {w : World} {g n : Nat} {l : List Int} (h : w.heap[g]? = some (.cells (Wr.bs l).toArray 5 (0, 0))) (hn : l.length = n) (hl : n ≤ 1000000000) : BR w (.slice (some ⟨g, 0, none⟩) n n) l := by
  subst hn
  exact ⟨_, _, rfl, Nat.le_refl _, by omega, fun _ => ⟨g, 0, rfl, lt_of_block h, fun j u hu => by
    rw [Nat.zero_add, cell_of_row _ _ _ _ _ _ h]
    simpa using hu⟩⟩
theorem BR.reader {w : World} {ao : Option Addr} {n cap : Nat} {l : List Int} (h : BR w (.slice ao n cap) l) (hr : ∀ x ∈ l, 0 ≤ x ∧ x ≤ 255) (hl : l.length ≤ 140737488351232) :
    Calls Try.prog 42 #[.slice ao n cap] w fun e w' => ∃ b g, e = .returned (.pointer (some ⟨b, 0, none⟩)) ∧ Wr.Rst w' b g l 0 0 0 ∧ Below w.heap.size w w' ∧ w.heap.size ≤ b ∧ w.heap.size ≤ g := by
  obtain ⟨a, c, e, h2, h3, h4⟩ := h
  simp only [Value.slice.injEq] at e
  obtain ⟨rfl, rfl, rfl⟩ := e
  refine Wr.newReader_any ao l cap w hr hl fun h0 => ?_
  obtain ⟨g, o, rfl, _, q⟩ := h4 h0
  exact ⟨_, rfl, fun j v hv => by rw [Addr.add_mid]; exact q j v hv⟩

def encT (t : Tk) : List Int := Wr.enc t.1.toNat ++ Wr.enc t.2.toNat
def encV (l : List Tk) : List Int := Wr.enc l.length ++ l.flatMap encT
theorem enc_len10 (n : Nat) (h : n ≤ 1000000000000000) : (Wr.enc n).length ≤ 10 := Wr.enc_length_10 n (by omega)
theorem encT_len {l : List Tk} (h : VV l) : ∀ k, ((l.take k).flatMap encT).length ≤ 20 * k := by
  intro k
  induction k with
  | zero => simp
  | succ k ih =>
    rcases ht : l[k]? with _ | t
    · rw [List.take_of_length_le (by have : l.length ≤ k := by simpa using ht
                                     omega), ← List.take_of_length_le (i := k) (l := l) (by simpa using ht)]
      omega
    · obtain ⟨hk, e⟩ := List.getElem?_eq_some_iff.1 ht
      rw [List.take_succ_eq_append_getElem hk, List.flatMap_append, List.length_append, e]
      have hb := h.2 t (List.mem_of_getElem? ht)
      have h1 := enc_len10 t.1.toNat (by omega)
      have h2 := enc_len10 t.2.toNat (by omega)
      simp only [encT, List.flatMap_cons, List.flatMap_nil, List.append_nil, List.length_append]
      omega
theorem encV_len {l : List Tk} (h : VV l) : (encV l).length ≤ 1290 := by
  have h1 := encT_len h l.length
  rw [List.take_length] at h1
  have h2 := h.len
  have h3 := enc_len10 l.length (by omega)
  unfold encV
  rw [List.length_append]
  omega
theorem encV_rng (l : List Tk) : ∀ y ∈ encV l, 0 ≤ y ∧ y ≤ 255 := by
  intro y hy
  simp only [encV, encT, List.mem_append, List.mem_flatMap] at hy
  rcases hy with hy | ⟨t, _, hy | hy⟩
  · exact Wr.enc_byte _ y hy
  · exact Wr.enc_byte _ y hy
  · exact Wr.enc_byte _ y hy
theorem ws_alloc {B b : Nat} {w0 w : World} {l : List Int} (h : Wr.WS B b w0 w l) (o : Obj) : Wr.WS B b w0 (w.alloc o) l :=
  ⟨h.1, h.2.1, h.2.2.1.alloc h.size _, by obtain ⟨v, hv⟩ := h.2.2.2; exact ⟨v, hv.alloc o⟩⟩
theorem data_n (b B n : Nat) (l : List Int) (w0 w : World) (h : Wr.WS B b w0 w l) (hn : l.length = n) (hl : n ≤ 100000) :
    Calls Try.prog 41 #[.pointer (some ⟨b, 0, none⟩)] w fun e w' => e = .returned (.slice (some ⟨w.heap.size, 0, none⟩) n n) ∧ BR w' (.slice (some ⟨w.heap.size, 0, none⟩) n n) l ∧ Below B w0 w' := by
  subst hn
  exact (Wr.data_ws b B l w0 w h (by omega)).mono fun e w' ⟨he, h1, h2⟩ => ⟨he, br_row h1 rfl (by omega), h2.2.2.1⟩

/-- Uint behind a new block, which stays as it is. -/
theorem uint_new (n : Nat) (b B : Nat) (l : List Int) (w0 w : World) (o : Obj) (hn : n < 18446744073709551616) (h : Wr.WS B b w0 w l) (hl : l.length ≤ 140737488300000) :
    Calls Try.prog 40 #[.pointer (some ⟨b, 0, none⟩), .int .u64 n] (w.alloc o) fun e w' => e = .returned (.tuple #[]) ∧ Wr.WS B b w0 w' (l ++ Wr.enc n) ∧ w'.heap[w.heap.size]? = some o := by
  have hA := ws_alloc h o
  have hB := hA.size
  have hbl : b < w.heap.size := by obtain ⟨_, _, _, v, hv⟩ := h; exact lt_of_block hv.blk
  obtain ⟨h1, h2, h3, v, hv⟩ := h
  have hvA := hv.alloc o
  refine (Wr.uint_any n b B v l (w.alloc o) hn hvA hl hB).mono fun e w' ⟨he, v', hv', hk, _⟩ => ⟨he, Wr.WS.step h1 h2 (h3.alloc (Nat.le_trans h2 h3.size) o) hvA hv' hk, ?_⟩
  rw [hk.block w.heap.size (by simp) (fun hh => hh.elim (fun e => by omega) (fun e => by have := (hv.own.lt _ e).2; omega))]
  exact heap_alloc_new w o
theorem take_encT {l : List Tk} {k p q : Nat} (h : l[k]? = some ((p : Int), (q : Int))) (L : List Int) : L ++ (l.take k).flatMap encT ++ Wr.enc p ++ Wr.enc q = L ++ (l.take (k + 1)).flatMap encT := by
  obtain ⟨hk, e⟩ := List.getElem?_eq_some_iff.1 h
  rw [List.take_succ_eq_append_getElem hk, List.flatMap_append, e]
  simp [encT]

set_option maxRecDepth 100000 in
set_option maxHeartbeats 1600000 in
theorem encode_any (ao : Option Addr) (n cap : Nat) (l : List Tk) (w : World) (ra : TRd w (.slice ao n cap) l) (hv : VV l) :
    Calls Try.prog 29 #[.slice ao n cap] w fun e w' => ∃ g m, e = .returned (.slice (some ⟨g, 0, none⟩) m m) ∧ BR w' (.slice (some ⟨g, 0, none⟩) m m) (encV l) ∧ Below w.heap.size w w' := by
  have VA := hid_of (valid_b ao n cap l w true ((okV_iff l).2 hv).symm ra)
  have RA := hid_of ra
  have HV := hid_of hv
  have hn := ra.cut.1
  have h64 : n ≤ 64 := by rw [hn]; exact hv.len
  have HN := hid_of hn
  have HL1 : Hid ((Wr.enc n).length ≤ 10) := hid_of (enc_len10 n (by omega))
  have HTL := hid_of (encT_len hv)
  obtain ⟨m, hm⟩ : ∃ m, (encV l).length = m := ⟨_, rfl⟩
  have HM := hid_of hm
  have hm2 : m ≤ 1290 := by rw [← hm]; exact encV_len hv
  clear ra hv hn hm
  have aw : IntKind.u64.wrap (n : Int) = (n : Int) := by rw [IntKind.wrap_u64]; omega
  go_enter Try.func29, Try.ntmps29
  go_wp2_with (first
    | (go_at_call 16; ((with_reducible refine VA.out.mono ?_); (rintro e w1 ⟨rfl, h1⟩; have HB1 := hid_of h1; clear h1)))
    | (go_at_call 40; ((with_reducible refine (Wr.uint_ws n w1.heap.size w1.heap.size [] w1 _ (by omega) (Wr.ws_new w1) (by simp)).mono ?_); (rintro e w2 ⟨rfl, h2⟩; have H2 := hid_of h2; clear h2))))
  go_loopw [15] (fun iv wr => ∃ k : Nat, k ≤ n ∧ iv = .int .i64 k ∧ Hid (Wr.WS w1.heap.size w1.heap.size w1 wr (Wr.enc n ++ (l.take k).flatMap encT))) (fun iv _ => n - (intOf iv).toNat)
  case atStart => exact ⟨0, Nat.zero_le _, rfl, hid_of (by have := H2.out; simpa using this)⟩
  case round =>
    obtain ⟨k, hk, rfl, hw⟩ := hrel
    have HW := hid_of hw.out
    have HBR := hid_of (bel_step HB1.out (hw.out.2.2.1) (Nat.le_refl _))
    have RR := hid_of (RA.out.later HBR.out (Nat.le_refl _))
    clear hw
    by_cases hlt : k < n
    · obtain ⟨g, o, rfl, hg, hcell⟩ := RR.out.open (by omega)
      obtain ⟨t, ht⟩ : ∃ t, l[k]? = some t := ⟨_, List.getElem?_eq_getElem (by have := HN.out; omega)⟩
      have hvt := HV.out.2 t (List.mem_of_getElem? ht)
      obtain ⟨t1, t2⟩ := t
      obtain ⟨p, rfl⟩ : ∃ p : Nat, t1 = p := ⟨t1.toNat, by simp only at hvt; omega⟩
      obtain ⟨q, rfl⟩ : ∃ q : Nat, t2 = q := ⟨t2.toNat, by simp only at hvt; omega⟩
      have c1 := (hcell k _ ht).1
      have c2 := (hcell k _ ht).2
      simp only at hvt c1 c2
      have b1 : (k : Int) < (n : Int) := by omega
      have b0 : (0 : Int) ≤ (k : Int) := by omega
      have aw1 : IntKind.u64.wrap (p : Int) = (p : Int) := by rw [IntKind.wrap_u64]; omega
      have aw2 : IntKind.u64.wrap (q : Int) = (q : Int) := by rw [IntKind.wrap_u64]; omega
      have hp : p ≤ 63 := by omega
      have hq : q ≤ 1000000000000000 := by omega
      have HK := hid_of (HTL.out k)
      have HT := hid_of (take_encT ht (Wr.enc n))
      have HP := hid_of (enc_len10 p (by omega))
      clear hcell hvt ht
      go_wp2_with (go_at_call 40; (first
        | ((with_reducible refine (uint_new p w1.heap.size w1.heap.size (Wr.enc n ++ (l.take k).flatMap encT) w1 wr _ (by omega) HW.out (by have := HK.out; have := HL1.out; rw [List.length_append]; omega)).mono ?_); (rintro e w3 ⟨rfl, h3, hr3⟩; have H3 := hid_of h3; have c3 : w3.cell? ⟨wr.heap.size, 1, none⟩ = some (.int .i64 q) := cell_of_row _ _ 1 _ _ _ hr3; clear h3 hr3))
        | ((with_reducible refine (Wr.uint_ws q w1.heap.size w1.heap.size (Wr.enc n ++ (l.take k).flatMap encT ++ Wr.enc p) w1 w3 (by omega) H3.out (by have := HK.out; have := HL1.out; have := HP.out; rw [List.length_append, List.length_append]; omega)).mono ?_); (rintro e w4 ⟨rfl, h4⟩; rw [HT.out] at h4; have H4 := hid_of h4; clear h4))))
      go_roundw
      case rel => exact ⟨k + 1, by omega, by go_num, H4⟩
      case measure => simp [intOf]; omega
    · obtain rfl : k = n := by omega
      have HE : Hid (Wr.WS w1.heap.size w1.heap.size w1 wr (encV l)) := hid_of (by
        have := HW.out
        rw [List.take_of_length_le (by have := HN.out; omega)] at this
        unfold encV
        rw [← HN.out]
        exact this)
      go_wp2_with (go_at_call 41; ((with_reducible refine (data_n w1.heap.size w1.heap.size m (encV l) w1 wr HE.out HM.out (by omega)).mono ?_); (rintro e w5 ⟨rfl, h5, h6⟩; have H5 := hid_of h5; have H6 := hid_of h6; clear h5 h6)))
      go_ret
      exact ⟨_, _, rfl, H5.out, bel_step HB1.out H6.out (Nat.le_refl _)⟩
end Go.Proofs.Ytofgmimdmgaljaa
