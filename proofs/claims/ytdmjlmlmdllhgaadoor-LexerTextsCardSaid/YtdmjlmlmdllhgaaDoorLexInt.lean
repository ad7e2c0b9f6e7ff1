/- The scanner: integers. Bounds on sizes alone. -/
import Derived.Test.YtdmjlmlmdllhgaaDoorLexWrd
import Derived.Test.YtdmjlmlmdllhgaaDoorLexNum
import Derived.Test.YtdmjlmlmdllhgaaDoorShelf
namespace Go.Proofs.YtdmjlmlmdllhgaaDoor
open Go.RowKit

/-- What ParseInt says of a number that fits. -/
def PiOk (v : Int) (w : World) (e : Ending) (w' : World) : Prop := e = .returned (.tuple #[.int .i64 v, .nilIface]) ∧ Below w.heap.size w w'
/-- What ParseInt says of a number that is too large. -/
def PiBig (v : Int) (w : World) (e : Ending) (w' : World) : Prop := ∃ N, e = .returned (.tuple #[.int .i64 v, .iface 103 (.pointer (some ⟨N, 0, none⟩))]) ∧ Below w.heap.size w w'
theorem bw_bel (w : World) (e : TypeId) (t : ByteArray) : Below w.heap.size w (Lib.bytesWorld w e t) := Lib.bytesWorld_below _ _ _
theorem pi_ok (t : ByteArray) (v : Int) (w : World) (hs : t.size ≤ 1000000) (h : Lib.parseIntB 64 t.data.toList = .ok v) :
    Calls Tryd.prog 77 #[.string t, .int .i64 10, .int .i64 64] w (PiOk v w) :=
  (sh_strconv_ParseInt_10_at64_ok t (by omega) v h w).mono fun e w' ⟨h1, h2⟩ => ⟨h1, by
    rcases h2 with rfl | ⟨q, rfl⟩
    · exact Below.refl _ _
    · exact bw_bel _ _ _⟩
theorem pi_big (t : ByteArray) (w : World) (hs : t.size ≤ 1000000) (hG : Glob w) (h : Lib.parseIntB 64 t.data.toList = .range) :
    Calls Tryd.prog 77 #[.string t, .int .i64 10, .int .i64 64] w (PiBig (Lib.intSat 64 t.data.toList) w) := by
  obtain ⟨tp, p, hv⟩ := hG.er
  exact (sh_strconv_ParseInt_10_at64_range_var t (by omega) h tp p w hv).mono fun e w' ⟨N, h1, _, _, h4⟩ => ⟨N, h1, h4⟩

set_option maxRecDepth 100000 in
set_option maxHeartbeats 1600000 in
theorem linteger_any (b : Nat) (s : ByteArray) (j : Nat) (w : World) (hs : s.size ≤ 1000000) (hj : j < s.size) (hdg : dig (gt s j) = true) (hb : 8 ≤ b) (hG : Glob w) (H : Pst w b s j) :
    Calls Tryd.prog 66 #[.pointer (some ⟨b, 0, none⟩)] w (TokP b s (intF s j) w) := by
  have hj' : j ≤ s.size := Nat.le_of_lt hj
  have hdd : Digs (s.extract j (de s j)).data.toList := digs_run hj'
  obtain ⟨k, hk⟩ : ∃ k, k = de s j := ⟨_, rfl⟩
  have R1 := hid_of (lrun_any _ dig en_dig lisDigit_any b s j (w.alloc zTok) hs hj' (H.al zTok))
  have R2 : runF dig s j = k := hk.symm
  rw [R2] at R1
  clear R2
  have hjk : j < k := by rw [hk]; exact run_gt hdg hj
  have hks : k ≤ s.size := by rw [hk]; exact run_le hj'
  rw [← hk] at hdd
  obtain ⟨t, ht⟩ : ∃ t, t = s.extract j k := ⟨_, rfl⟩
  have hsz : t.size = k - j := by rw [ht, ByteArray.size_extract]; omega
  have hg0 : gt t 0 = gt s j := by rw [ht]; exact gt_extract hks (by omega)
  rw [← ht] at R1 hdd
  obtain ⟨g, hg⟩ : ∃ g, g = intF s j := ⟨_, rfl⟩
  rw [← hg]
  have HG : Hid (g = if gt s j = 48 ∧ 1 < k - j then bad 2 else if 1000000000000000 < numS t then bad 5 else ⟨3, ⟨#[]⟩, numS t, k, 0⟩) := hid_of (by rw [hg, intF, ← hk, ht])
  have ht0 : 0 < t.size := by omega
  obtain ⟨x, hx⟩ : ∃ x : Int, x = ((t[0]'ht0).toNat : Int) := ⟨_, rfl⟩
  have HX : gt s j = x := by rw [← hg0, gt_lt ht0, hx]
  have hxs : ((t[0]'ht0).toNat : Int) = x := hx.symm
  rw [HX] at HG
  have hne : t.data.toList ≠ [] := by
    intro h
    have h3 : t.data.toList.length = 0 := by rw [h]; rfl
    rw [Array.length_toList] at h3
    have h4 : t.size = 0 := h3
    omega
  have hpi0 := parse_digs hne hdd
  clear hne
  have HBW := hid_of H.lt
  have hts : t.size ≤ 1000000 := by omega
  have HN : Hid (b ≠ w.heap.size) := hid_of (by have := H.lt; omega)
  have HEND : Hid (∀ w1 cs, Pst w1 b s k → KB b (w.alloc zTok) w1 → Pst (w1.setRow w.heap.size cs) b s k ∧ KB b w (w1.setRow w.heap.size cs)) := hid_of (fun w1 cs h1 h2 => ⟨h1.row HN.out cs, kept_row (KB.al _ h2) (Nat.le_refl _) cs⟩)
  have HIT := hid_of infoTok
  have HROW : Hid (∀ w1, KB b (w.alloc zTok) w1 → w1.heap[w.heap.size]? = some (.cells #[.int .i64 0, .string ⟨#[]⟩, .int .i64 0, .int .i64 0] 25 (0, 0))) := hid_of (fun w1 h => row_kept h HBW.out)
  have HGL : Hid (∀ w1, KB b (w.alloc zTok) w1 → Glob w1) := hid_of (fun w1 h => (hG.at (bel_alloc w zTok)).kept h hb)
  have HPS : Hid (∀ w1 w2, Pst w1 b s k → Below w1.heap.size w1 w2 → Pst w2 b s k) := hid_of (fun w1 w2 h1 h2 => h1.bel h2 h1.lt)
  obtain ⟨n, hn⟩ : ∃ n, n = numS t := ⟨_, rfl⟩
  rw [← hn] at HG
  have hpi : Lib.parseIntB 64 t.data.toList = if n ≤ 9223372036854775807 then .ok (n : Int) else .range := by rw [hn]; exact hpi0
  clear hpi0
  by_cases hA : x = 48 ∧ 1 < k - j
  · have GE : Hid (g = bad 2) := hid_of (by rw [HG.out, if_pos hA])
    have d1 : decide ((1 : Int) < (t.size : Int)) = true := decide_eq_true (by omega)
    have d0 : (x == 48) = true := by rw [hA.1]; rfl
    clear hk hj hj' hg ht hG H hjk hks hs hb hdd hdg hg0 hx HX hts hn hpi hsz hA
    rw [show zTok = .cells #[.int .i64 0, .string ⟨#[]⟩, .int .i64 0, .int .i64 0] 25 from rfl] at R1 HEND HROW
    go_enter Tryd.func66, Tryd.ntmps66
    go_wp2_with (go_at_call 59; ((with_reducible refine (R1.out).mono ?_); (rintro e w1 ⟨rfl, h1, h2⟩; have P1 := hid_of h1; have K1 := hid_of h2; have W1 := hid_of (HROW.out w1 h2); obtain ⟨c0, c1, c2, c3, f0, f1, f2, f3⟩ := row4 W1.out; clear h1 h2)))
    have hz := HEND.out w1 #[.int .i64 0, .string ⟨#[]⟩, .int .i64 0, .int .i64 0] P1.out K1.out
    rw [set4 W1.out]
    refine bodyPost_ret (res_ct (cs := #[.int .i64 0, .string ⟨#[]⟩, .int .i64 0, .int .i64 0]) rfl w.heap.size rfl (setRow_heap _ _ _ _ _ _ W1.out) Tryd.underlying25 rfl HIT.out) rfl ⟨by rw [GE.out] <;> rfl, fun h => ?_, hz.2⟩
    rw [GE.out] at h; cases h
  · have HG2 : Hid (g = if 1000000000000000 < n then bad 5 else ⟨3, ⟨#[]⟩, n, k, 0⟩) := hid_of (by rw [HG.out, if_neg hA])
    have HPK : Hid (∀ w1, Pst w1 b s k → ∀ w2, Below w1.heap.size w1 w2 → Pst w2 b s k) := hid_of (fun w1 h1 w2 h2 => HPS.out w1 w2 h1 h2)
    rcases (by omega : n ≤ 1000000000000000 ∨ (1000000000000000 < n ∧ n ≤ 9223372036854775807) ∨ 9223372036854775807 < n) with hcase | hcase | hcase
    · have GE : Hid (g = ⟨3, ⟨#[]⟩, n, k, 0⟩) := hid_of (by rw [HG2.out, if_neg (by omega)])
      have HPI : Hid (∀ w1, KB b (w.alloc zTok) w1 → Calls Tryd.prog 77 #[.string t, .int .i64 10, .int .i64 64] w1 (PiOk (n : Int) w1)) := hid_of (fun w1 _ => pi_ok t n w1 hts (by rw [hpi, if_pos (by omega)]))
      have d2 : decide ((n : Int) > 1000000000000000) = false := decide_eq_false (by omega)
      by_cases h48 : x = 48
      · have d1 : decide ((1 : Int) < (t.size : Int)) = false := decide_eq_false (by omega)
        have d0 : (x == 48) = true := by rw [h48]; rfl
        clear hk hj hj' hg ht hG H hjk hks hs hb hdd hdg hg0 hx HX hts hn hpi hsz hA h48 hcase
        rw [show zTok = .cells #[.int .i64 0, .string ⟨#[]⟩, .int .i64 0, .int .i64 0] 25 from rfl] at R1 HEND HROW HPI
        go_enter Tryd.func66, Tryd.ntmps66
        go_wp2_with (first
          | (go_at_call 59; ((with_reducible refine (R1.out).mono ?_); (rintro e w1 ⟨rfl, h1, h2⟩; have P1 := hid_of h1; have K1 := hid_of h2; have PI1 := hid_of (HPI.out w1 h2); have PS1 := hid_of (HPK.out w1 h1); clear h1 h2)))
          | (go_at_call 77; ((with_reducible refine (PI1.out).mono ?_); (rintro e w2 ⟨rfl, h3⟩; have K2 := hid_of (K1.out.trans (Kept.ofBelow h3)); have P2 := hid_of (PS1.out w2 h3); have W2 := hid_of (HROW.out w2 K2.out); obtain ⟨c0, c1, c2, c3, f0, f1, f2, f3⟩ := row4 W2.out; clear h3))))
        have hz := HEND.out w2 #[.int .i64 3, .string ⟨#[]⟩, .int .i64 n, .int .i64 0] P2.out K2.out
        rw [set4 W2.out]
        refine bodyPost_ret (res_ct (cs := #[.int .i64 3, .string ⟨#[]⟩, .int .i64 n, .int .i64 0]) rfl w.heap.size rfl (setRow_heap _ _ _ _ _ _ W2.out) Tryd.underlying25 rfl HIT.out) rfl ⟨by rw [GE.out] <;> rfl, fun h => ?_, hz.2⟩
        rw [GE.out]; exact hz.1
      · have d0 : (x == 48) = false := by simpa using h48
        clear hk hj hj' hg ht hG H hjk hks hs hb hdd hdg hg0 hx HX hts hn hpi hsz hA h48 hcase
        rw [show zTok = .cells #[.int .i64 0, .string ⟨#[]⟩, .int .i64 0, .int .i64 0] 25 from rfl] at R1 HEND HROW HPI
        go_enter Tryd.func66, Tryd.ntmps66
        go_wp2_with (first
          | (go_at_call 59; ((with_reducible refine (R1.out).mono ?_); (rintro e w1 ⟨rfl, h1, h2⟩; have P1 := hid_of h1; have K1 := hid_of h2; have PI1 := hid_of (HPI.out w1 h2); have PS1 := hid_of (HPK.out w1 h1); clear h1 h2)))
          | (go_at_call 77; ((with_reducible refine (PI1.out).mono ?_); (rintro e w2 ⟨rfl, h3⟩; have K2 := hid_of (K1.out.trans (Kept.ofBelow h3)); have P2 := hid_of (PS1.out w2 h3); have W2 := hid_of (HROW.out w2 K2.out); obtain ⟨c0, c1, c2, c3, f0, f1, f2, f3⟩ := row4 W2.out; clear h3))))
        have hz := HEND.out w2 #[.int .i64 3, .string ⟨#[]⟩, .int .i64 n, .int .i64 0] P2.out K2.out
        rw [set4 W2.out]
        refine bodyPost_ret (res_ct (cs := #[.int .i64 3, .string ⟨#[]⟩, .int .i64 n, .int .i64 0]) rfl w.heap.size rfl (setRow_heap _ _ _ _ _ _ W2.out) Tryd.underlying25 rfl HIT.out) rfl ⟨by rw [GE.out] <;> rfl, fun h => ?_, hz.2⟩
        rw [GE.out]; exact hz.1
    · have GE : Hid (g = bad 5) := hid_of (by rw [HG2.out, if_pos (by omega)])
      have HPI : Hid (∀ w1, KB b (w.alloc zTok) w1 → Calls Tryd.prog 77 #[.string t, .int .i64 10, .int .i64 64] w1 (PiOk (n : Int) w1)) := hid_of (fun w1 _ => pi_ok t n w1 hts (by rw [hpi, if_pos (by omega)]))
      have d2 : decide ((n : Int) > 1000000000000000) = true := decide_eq_true (by omega)
      by_cases h48 : x = 48
      · have d1 : decide ((1 : Int) < (t.size : Int)) = false := decide_eq_false (by omega)
        have d0 : (x == 48) = true := by rw [h48]; rfl
        clear hk hj hj' hg ht hG H hjk hks hs hb hdd hdg hg0 hx HX hts hn hpi hsz hA h48 hcase
        rw [show zTok = .cells #[.int .i64 0, .string ⟨#[]⟩, .int .i64 0, .int .i64 0] 25 from rfl] at R1 HEND HROW HPI
        go_enter Tryd.func66, Tryd.ntmps66
        go_wp2_with (first
          | (go_at_call 59; ((with_reducible refine (R1.out).mono ?_); (rintro e w1 ⟨rfl, h1, h2⟩; have P1 := hid_of h1; have K1 := hid_of h2; have PI1 := hid_of (HPI.out w1 h2); have PS1 := hid_of (HPK.out w1 h1); clear h1 h2)))
          | (go_at_call 77; ((with_reducible refine (PI1.out).mono ?_); (rintro e w2 ⟨rfl, h3⟩; have K2 := hid_of (K1.out.trans (Kept.ofBelow h3)); have P2 := hid_of (PS1.out w2 h3); have W2 := hid_of (HROW.out w2 K2.out); obtain ⟨c0, c1, c2, c3, f0, f1, f2, f3⟩ := row4 W2.out; clear h3))))
        have hz := HEND.out w2 #[.int .i64 0, .string ⟨#[]⟩, .int .i64 0, .int .i64 0] P2.out K2.out
        rw [set4 W2.out]
        refine bodyPost_ret (res_ct (cs := #[.int .i64 0, .string ⟨#[]⟩, .int .i64 0, .int .i64 0]) rfl w.heap.size rfl (setRow_heap _ _ _ _ _ _ W2.out) Tryd.underlying25 rfl HIT.out) rfl ⟨by rw [GE.out] <;> rfl, fun h => ?_, hz.2⟩
        rw [GE.out] at h; cases h
      · have d0 : (x == 48) = false := by simpa using h48
        clear hk hj hj' hg ht hG H hjk hks hs hb hdd hdg hg0 hx HX hts hn hpi hsz hA h48 hcase
        rw [show zTok = .cells #[.int .i64 0, .string ⟨#[]⟩, .int .i64 0, .int .i64 0] 25 from rfl] at R1 HEND HROW HPI
        go_enter Tryd.func66, Tryd.ntmps66
        go_wp2_with (first
          | (go_at_call 59; ((with_reducible refine (R1.out).mono ?_); (rintro e w1 ⟨rfl, h1, h2⟩; have P1 := hid_of h1; have K1 := hid_of h2; have PI1 := hid_of (HPI.out w1 h2); have PS1 := hid_of (HPK.out w1 h1); clear h1 h2)))
          | (go_at_call 77; ((with_reducible refine (PI1.out).mono ?_); (rintro e w2 ⟨rfl, h3⟩; have K2 := hid_of (K1.out.trans (Kept.ofBelow h3)); have P2 := hid_of (PS1.out w2 h3); have W2 := hid_of (HROW.out w2 K2.out); obtain ⟨c0, c1, c2, c3, f0, f1, f2, f3⟩ := row4 W2.out; clear h3))))
        have hz := HEND.out w2 #[.int .i64 0, .string ⟨#[]⟩, .int .i64 0, .int .i64 0] P2.out K2.out
        rw [set4 W2.out]
        refine bodyPost_ret (res_ct (cs := #[.int .i64 0, .string ⟨#[]⟩, .int .i64 0, .int .i64 0]) rfl w.heap.size rfl (setRow_heap _ _ _ _ _ _ W2.out) Tryd.underlying25 rfl HIT.out) rfl ⟨by rw [GE.out] <;> rfl, fun h => ?_, hz.2⟩
        rw [GE.out] at h; cases h
    · have GE : Hid (g = bad 5) := hid_of (by rw [HG2.out, if_pos (by omega)])
      have HPI : Hid (∀ w1, KB b (w.alloc zTok) w1 → Calls Tryd.prog 77 #[.string t, .int .i64 10, .int .i64 64] w1 (PiBig (Lib.intSat 64 t.data.toList) w1)) := hid_of (fun w1 h => pi_big t w1 hts (HGL.out w1 h) (by rw [hpi, if_neg (by omega)]))
      generalize Lib.intSat 64 t.data.toList = sat at HPI
      by_cases h48 : x = 48
      · have d1 : decide ((1 : Int) < (t.size : Int)) = false := decide_eq_false (by omega)
        have d0 : (x == 48) = true := by rw [h48]; rfl
        clear hk hj hj' hg ht hG H hjk hks hs hb hdd hdg hg0 hx HX hts hn hpi hsz hA h48 hcase
        rw [show zTok = .cells #[.int .i64 0, .string ⟨#[]⟩, .int .i64 0, .int .i64 0] 25 from rfl] at R1 HEND HROW HPI
        go_enter Tryd.func66, Tryd.ntmps66
        go_wp2_with (first
          | (go_at_call 59; ((with_reducible refine (R1.out).mono ?_); (rintro e w1 ⟨rfl, h1, h2⟩; have P1 := hid_of h1; have K1 := hid_of h2; have PI1 := hid_of (HPI.out w1 h2); have PS1 := hid_of (HPK.out w1 h1); clear h1 h2)))
          | (go_at_call 77; ((with_reducible refine (PI1.out).mono ?_); (rintro e w2 ⟨N, rfl, h3⟩; have K2 := hid_of (K1.out.trans (Kept.ofBelow h3)); have P2 := hid_of (PS1.out w2 h3); have W2 := hid_of (HROW.out w2 K2.out); obtain ⟨c0, c1, c2, c3, f0, f1, f2, f3⟩ := row4 W2.out; clear h3))))
        have hz := HEND.out w2 #[.int .i64 0, .string ⟨#[]⟩, .int .i64 0, .int .i64 0] P2.out K2.out
        rw [set4 W2.out]
        refine bodyPost_ret (res_ct (cs := #[.int .i64 0, .string ⟨#[]⟩, .int .i64 0, .int .i64 0]) rfl w.heap.size rfl (setRow_heap _ _ _ _ _ _ W2.out) Tryd.underlying25 rfl HIT.out) rfl ⟨by rw [GE.out] <;> rfl, fun h => ?_, hz.2⟩
        rw [GE.out] at h; cases h
      · have d0 : (x == 48) = false := by simpa using h48
        clear hk hj hj' hg ht hG H hjk hks hs hb hdd hdg hg0 hx HX hts hn hpi hsz hA h48 hcase
        rw [show zTok = .cells #[.int .i64 0, .string ⟨#[]⟩, .int .i64 0, .int .i64 0] 25 from rfl] at R1 HEND HROW HPI
        go_enter Tryd.func66, Tryd.ntmps66
        go_wp2_with (first
          | (go_at_call 59; ((with_reducible refine (R1.out).mono ?_); (rintro e w1 ⟨rfl, h1, h2⟩; have P1 := hid_of h1; have K1 := hid_of h2; have PI1 := hid_of (HPI.out w1 h2); have PS1 := hid_of (HPK.out w1 h1); clear h1 h2)))
          | (go_at_call 77; ((with_reducible refine (PI1.out).mono ?_); (rintro e w2 ⟨N, rfl, h3⟩; have K2 := hid_of (K1.out.trans (Kept.ofBelow h3)); have P2 := hid_of (PS1.out w2 h3); have W2 := hid_of (HROW.out w2 K2.out); obtain ⟨c0, c1, c2, c3, f0, f1, f2, f3⟩ := row4 W2.out; clear h3))))
        have hz := HEND.out w2 #[.int .i64 0, .string ⟨#[]⟩, .int .i64 0, .int .i64 0] P2.out K2.out
        rw [set4 W2.out]
        refine bodyPost_ret (res_ct (cs := #[.int .i64 0, .string ⟨#[]⟩, .int .i64 0, .int .i64 0]) rfl w.heap.size rfl (setRow_heap _ _ _ _ _ _ W2.out) Tryd.underlying25 rfl HIT.out) rfl ⟨by rw [GE.out] <;> rfl, fun h => ?_, hz.2⟩
        rw [GE.out] at h; cases h
end Go.Proofs.YtdmjlmlmdllhgaaDoor
