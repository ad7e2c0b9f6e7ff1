/- The reference's Encode; Encode of whatever ticks; the encoding as a string. Bounds on sizes. -/
import Derived.Test.YtofgmimdmgaljaaClkRDec
import Derived.Laws.BytesArg
import Derived.Laws.DeepNot64
namespace Go.Proofs.Ytofgmimdmgaljaa
open Go.RowKit

/-- A row of bytes as a string. -/
theorem conv_br {w : World} {v : Value} {l : List Int} (h : BR w v l) : (convert 35 9 v).run Try.prog w = .ok (.string (strOfNums l)) w := by
  obtain ⟨ao, cap, rfl, h1, h2, h3⟩ := h
  cases ao with
  | none =>
    obtain rfl : l = [] := by
      cases l with
      | nil => rfl
      | cons x r => obtain ⟨g, o, h, _⟩ := h3 (by simp); cases h
    exact run_convert_bytes_nil w 35 5 Try.underlying35 Try.underlying5 0 cap 9 Try.underlying9
  | some ad =>
    have hl : (loadCells ad l.length).run Try.prog w = .ok (l.map (Value.int .u8)).toArray w := by
      have := run_loadCells_list (P := Try.prog) w ad (Wr.bs l) (fun j v hj => by
        have h0 : 0 < l.length := by
          have := (List.getElem?_eq_some_iff.1 hj).1
          simp [Wr.bs] at this; omega
        obtain ⟨g, o, q1, q2, q3⟩ := h3 h0
        cases q1
        rw [Addr.add_mid]
        exact q3 j v hj)
      simpa [Wr.bs] using this
    rw [run_convert_bytes_string w 35 9 5 _ l.length cap Try.underlying35 Try.underlying5 Try.underlying9, run_bytesToString w _ l.length cap l hl, foldl_push_bytes]
    simp [strOfNums, ByteArray.empty, ByteArray.emptyWithCapacity]
    rfl

theorem OB.later {B : Nat} {w0 w w' : World} {v : Value} {l : List Int} (h : OB B w0 w v l) (hb : Below w.heap.size w w') : OB B w0 w' v l :=
  ⟨h.1, h.2.1.trans (hb.mono h.size), own_same h.2.2 fun k hk => hb.block k (h.2.2.lt k hk).2⟩
set_option maxRecDepth 100000 in
set_option maxHeartbeats 1000000 in
theorem rnumber_any (l : List Int) (B : Nat) (w0 : World) (x0 : Option Addr) (n0 cap0 : Nat) (n : Nat) (w : World) (hO : OB B w0 w (.slice x0 n0 cap0) l) (hl : l.length ≤ 100000) (hn : n < 18446744073709551616) :
    Calls Try.prog 47 #[.slice x0 n0 cap0, .int .u64 n] w fun e w' => ∃ x k c, e = .returned (.slice x k c) ∧ OB B w0 w' (.slice x k c) (l ++ Wr.enc n) := by
  have hel := Wr.enc_length_10 n hn
  have HO := hid_of hO
  have HLL := hid_of hl
  clear hO
  go_enter Try.func47, Try.ntmps47
  go_wp2
  go_loopw [0, 1] (fun sv nv wr => ∃ k ao m cap, nv = .int .u64 ((n / 128 ^ k : Nat) : Int) ∧ sv = .slice ao m cap ∧ Hid (k ≤ 9 ∧ (∀ j, j < k → 128 ≤ n / 128 ^ j) ∧ OB B w0 wr (.slice ao m cap) (l ++ Wr.encTake k n))) (fun _ nv _ => (intOf nv).toNat)
  case atStart => exact ⟨0, x0, n0, cap0, by simp, rfl, hid_of ⟨by omega, fun j hj => by omega, by have := HO.out; rw [show l ++ Wr.encTake 0 n = l by simp [Wr.encTake]]; exact this⟩⟩
  case round =>
    obtain ⟨k, ao, mm, cap, rfl, rfl, hinv⟩ := hrel
    obtain ⟨m, hm⟩ : ∃ m, m = n / 128 ^ k := ⟨_, rfl⟩
    rw [← hm]
    have hmn : m ≤ n := by rw [hm]; exact Nat.div_le_self _ _
    have HM := hid_of hm
    clear hm
    have HK : Hid (k ≤ 9) := hid_of hinv.out.1
    have HOS : Hid (OB B w0 wr (.slice ao mm cap) (l ++ Wr.encTake k n)) := hid_of hinv.out.2.2
    have HLN : Hid ((l ++ Wr.encTake k n).length ≤ 100009) := hid_of (by have := HK.out; have := HLL.out; rw [List.length_append, Wr.encTake_length]; omega)
    have HJ := hid_of hinv.out.2.1
    clear hinv
    by_cases hlt : 128 ≤ m
    · have hk8 : k ≤ 8 := by
        have h1 := HM.out
        have h0 := HK.out
        rcases Nat.lt_or_ge k 9 with h2 | h2
        · omega
        · obtain rfl : k = 9 := by omega
          have h3 : m = n / 9223372036854775808 := h1
          omega
      go_wp2_with (at_builtin; (refine wpList_appb rfl _ _ rfl (v := .slice ao mm cap) rfl (HOS.out.alloc _) (vx := .slice (some ⟨wr.heap.size, 0, none⟩) 1 1) rfl (br_byte wr ((m : Int) % 128 + 128)) (by have := HLN.out; simp at this ⊢; omega) ?_); intro xo2 n2 c2 w2 hn2 h2; have H2 := hid_of h2; clear h2 hn2)
      go_roundw
      case rel =>
        refine ⟨k + 1, xo2, n2, c2, ?_, rfl, hid_of ⟨by omega, fun j hj => ?_, ?_⟩⟩
        · rw [HM.out, Nat.pow_succ, ← Nat.div_div_eq_div_mul]
          go_num
        · rcases Nat.lt_or_ge j k with h1 | h1
          · exact HJ.out j h1
          · obtain rfl : j = k := by omega
            rw [← HM.out]; exact hlt
        · have := H2.out
          rw [Wr.encTake_snoc, ← HM.out, ← List.append_assoc]
          rw [show (m : Int) % 128 + 128 = ((m % 128 + 128 : Nat) : Int) by omega] at this
          exact this
      case measure => simp [intOf]; omega
    · go_wp2_with (at_builtin; (refine wpList_appb rfl _ _ rfl (v := .slice ao mm cap) rfl (HOS.out.alloc _) (vx := .slice (some ⟨wr.heap.size, 0, none⟩) 1 1) rfl (br_byte wr (m : Int)) (by have := HLN.out; simp at this ⊢; omega) ?_); intro xo2 n2 c2 w2 hn2 h2; have H2 := hid_of h2; clear h2 hn2)
      go_ret
      refine ⟨_, _, _, rfl, ?_⟩
      have := H2.out
      rw [Wr.enc_take k n HJ.out, ← HM.out, Wr.enc_lt (by omega), ← List.append_assoc]
      exact this

/-- What Encode returns. -/
def encW (l : List Tk) : List Int := if okV l = true then encV l else []
set_option maxRecDepth 100000 in
set_option maxHeartbeats 1600000 in
theorem rencode_any (ao : Option Addr) (n cap : Nat) (l : List Tk) (w : World) (ra : TRd w (.slice ao n cap) l) :
    Calls Try.prog 32 #[.slice ao n cap] w fun e w' => ∃ x k c, e = .returned (.slice x k c) ∧ BR w' (.slice x k c) (encW l) ∧ Below w.heap.size w w' := by
  have RA := hid_of ra
  by_cases hv : okV l = true
  case neg =>
    have h2 : okV l = false := by simpa using hv
    have VA := hid_of (rvalid_r ra h2.symm)
    have HE : Hid (encW l = []) := hid_of (if_neg hv)
    clear ra hv h2
    go_enter Try.func32, Try.ntmps32
    go_wp2_with (go_at_call 17; ((with_reducible refine VA.out.mono ?_); (rintro e w1 ⟨rfl, h1⟩; have HB1 := hid_of h1; clear h1)))
    go_ret
    exact ⟨_, _, _, rfl, by rw [HE.out]; exact (ob_nil _).br, HB1.out⟩
  have hvv := (okV_iff l).1 hv
  have HV := hid_of hvv
  have VA := hid_of (rvalid_r ra hv.symm)
  have hn := ra.cut.1
  have h64 : n ≤ 64 := by rw [hn]; exact hvv.len
  have HN := hid_of hn
  have HL1 : Hid ((Wr.enc n).length ≤ 10) := hid_of (enc_len10 n (by omega))
  have HTL := hid_of (encT_len hvv)
  have HE : Hid (encW l = encV l) := hid_of (if_pos hv)
  clear ra hv hn hvv
  have aw : IntKind.u64.wrap (n : Int) = (n : Int) := by rw [IntKind.wrap_u64]; omega
  go_enter Try.func32, Try.ntmps32
  go_wp2_with (first
    | (go_at_call 17; ((with_reducible refine VA.out.mono ?_); (rintro e w1 ⟨rfl, h1⟩; have HB1 := hid_of h1; clear h1)))
    | (go_at_call 47; ((with_reducible refine (rnumber_any [] w1.heap.size w1 none 0 0 n w1 (ob_nil w1) (by simp) (by omega)).mono ?_); (rintro e w2 ⟨x2, k2, c2, rfl, h2⟩; have H2 := hid_of h2; clear h2))))
  go_loopw [3, 4] (fun ov iv wr => ∃ (k : Nat) (x : Option Addr) (m c : Nat), k ≤ n ∧ iv = .int .i64 k ∧ ov = .slice x m c ∧ Hid (OB w1.heap.size w1 wr (.slice x m c) (Wr.enc n ++ (l.take k).flatMap encT))) (fun _ iv _ => n - (intOf iv).toNat)
  case atStart => exact ⟨0, _, _, _, Nat.zero_le _, rfl, rfl, hid_of (by have := H2.out; simpa using this)⟩
  case round =>
    obtain ⟨k, x, m, c, hk, rfl, rfl, hw⟩ := hrel
    have HW := hid_of hw.out
    have HBR := hid_of (bel_step HB1.out (hw.out.2.1) (Nat.le_refl _))
    have RR := hid_of (RA.out.later HBR.out (Nat.le_refl _))
    clear hw
    by_cases hlt : k < n
    · obtain ⟨g, o, rfl, hg, hcell⟩ := RR.out.open (by omega)
      obtain ⟨t, ht⟩ : ∃ t, l[k]? = some t := ⟨_, List.getElem?_eq_getElem (by have := HN.out; omega)⟩
      have hvt := HV.out.2 t (List.mem_of_getElem? ht)
      obtain ⟨t1, t2⟩ := t
      obtain ⟨p, rfl⟩ : ∃ p : Nat, t1 = p := ⟨t1.toNat, by simp only at hvt; omega⟩
      obtain ⟨q, rfl⟩ : ∃ q : Nat, t2 = q := ⟨t2.toNat, by simp only at hvt; omega⟩
      have c1 := (hcell k _ ht).1
      have C2 := hid_of (fun (W : World) (hb : Below w.heap.size w W) => ((RA.out.later hb (Nat.le_refl _)).open (show 0 < n by omega)))
      simp only at hvt c1
      have b1 : (k : Int) < (n : Int) := by omega
      have b0 : (0 : Int) ≤ (k : Int) := by omega
      have aw1 : IntKind.u64.wrap (p : Int) = (p : Int) := by rw [IntKind.wrap_u64]; omega
      have aw2 : IntKind.u64.wrap (q : Int) = (q : Int) := by rw [IntKind.wrap_u64]; omega
      have hp : p ≤ 63 := by omega
      have hq : q ≤ 1000000000000000 := by omega
      have HK := hid_of (HTL.out k)
      have HT := hid_of (take_encT ht (Wr.enc n))
      have HTT := hid_of ht
      have HP := hid_of (enc_len10 p (by omega))
      clear hcell hvt ht
      go_wp2_with (go_at_call 47; (first
        | ((with_reducible refine (rnumber_any (Wr.enc n ++ (l.take k).flatMap encT) w1.heap.size w1 x m c p wr HW.out (by have := HK.out; have := HL1.out; rw [List.length_append]; omega) (by omega)).mono ?_); (rintro e w3 ⟨x3, k3, c3, rfl, h3⟩; have H3 := hid_of h3; have HB3 := hid_of (bel_step HB1.out h3.2.1 (Nat.le_refl _)); have c2 : w3.cell? ⟨g, o + k * 2 + 1, none⟩ = some (.int .i64 q) := (by obtain ⟨g', o', e1, _, e2⟩ := C2.out w3 HB3.out; simp only [Option.some.injEq, Addr.mk.injEq] at e1; obtain ⟨r1, r2, _⟩ := e1; subst r1 r2; exact (e2 k _ HTT.out).2); clear h3))
        | ((with_reducible refine (rnumber_any (Wr.enc n ++ (l.take k).flatMap encT ++ Wr.enc p) w1.heap.size w1 x3 k3 c3 q w3 H3.out (by have := HK.out; have := HL1.out; have := HP.out; rw [List.length_append, List.length_append]; omega) (by omega)).mono ?_); (rintro e w4 ⟨x4, k4, c4, rfl, h4⟩; rw [HT.out] at h4; have H4 := hid_of h4; clear h4))))
      go_roundw
      case rel => exact ⟨k + 1, _, _, _, by omega, by go_num, rfl, H4⟩
      case measure => simp [intOf]; omega
    · obtain rfl : k = n := by omega
      have HX : Hid (OB w1.heap.size w1 wr (.slice x m c) (encV l)) := hid_of (by
        have := HW.out
        rw [List.take_of_length_le (by have := HN.out; omega)] at this
        unfold encV
        rw [← HN.out]
        exact this)
      go_wp2
      go_ret
      exact ⟨_, _, _, rfl, by rw [HE.out]; exact HX.out.br, HBR.out⟩
theorem encode_w (ao : Option Addr) (n cap : Nat) (l : List Tk) (w : World) (ra : TRd w (.slice ao n cap) l) :
    Calls Try.prog 29 #[.slice ao n cap] w fun e w' => ∃ x k c, e = .returned (.slice x k c) ∧ BR w' (.slice x k c) (encW l) ∧ Below w.heap.size w w' := by
  by_cases hv : okV l = true
  · have he : encW l = encV l := if_pos hv
    rw [he]
    exact (encode_any ao n cap l w ra ((okV_iff l).1 hv)).mono fun e w' ⟨g, m, h1, h2, h3⟩ => ⟨_, _, _, h1, h2, h3⟩
  · have h2 : okV l = false := by simpa using hv
    have VA := hid_of (valid_c ra h2.symm)
    have HE : Hid (encW l = []) := hid_of (if_neg hv)
    clear ra hv h2
    go_enter Try.func29, Try.ntmps29
    go_wp2_with (go_at_call 16; ((with_reducible refine VA.out.mono ?_); (rintro e w1 ⟨rfl, h1⟩; have HB1 := hid_of h1; clear h1)))
    go_ret
    exact ⟨_, _, _, rfl, by rw [HE.out]; exact (ob_nil _).br, HB1.out⟩
end Go.Proofs.Ytofgmimdmgaljaa
