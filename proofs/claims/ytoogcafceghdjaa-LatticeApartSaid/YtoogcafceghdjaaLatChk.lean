/- Check of package lattice. Bounds on sizes alone. -/
import Derived.Test.YtoogcafceghdjaaLatNod
namespace Go.Proofs.Ytoogcafceghdjaa
open Go.RowKit

/-- The number c stands in block b. -/
def CK (w : World) (b c : Nat) : Prop := w.heap[b]? = some (.cells [Value.int .i64 (c : Nat)].toArray 3 (0, 0))
theorem CK.cell {w : World} {b c : Nat} (h : CK w b c) : w.cell? ⟨b, 0, none⟩ = some (.int .i64 (c : Nat)) := by
  have := World.news_of_block h 0 (.int .i64 (c : Nat)) (by simp)
  rwa [Addr.add_mid] at this
theorem CK.free {w : World} {b c : Nat} (h : CK w b c) : w.frozen? ⟨b, 0, none⟩ = false := by
  unfold CK at h
  simp [World.frozen?, h]
theorem CK.lt {w : World} {b c : Nat} (h : CK w b c) : b < w.heap.size := lt_of_block h
theorem CK.same {w w' : World} {b c : Nat} (h : CK w b c) (hb : w'.heap[b]? = w.heap[b]?) : CK w' b c := hb.trans h
theorem CK.at {w w' : World} {b c : Nat} (h : CK w b c) (hb : Below w.heap.size w w') : CK w' b c := h.same (hb.block b h.lt)
theorem CK.set {w : World} {b c d : Nat} (h : CK w b c) : CK (w.setCell ⟨b, 0, none⟩ (.int .i64 (d : Nat))) b d := by
  have := blk_setCell (k := 0) (u := .int .i64 (d : Nat)) h
  exact this
def ChkP (b : Nat) (r : Nat × Int) (w : World) (e : Ending) (w' : World) : Prop := e = .returned (.int .i64 r.2) ∧ CK w' b r.1 ∧ Kept (fun k => k = b) w w'
theorem chkTs_step {l : List Lat} {i : Nat} {p : Lat} {d c : Nat} (h : l[i]? = some p) : chkTs (l.drop i) d c = if (chkT p d c).2 ≠ 0 then chkT p d c else chkTs (l.drop (i + 1)) d (chkT p d c).1 := by
  have hl := (List.getElem?_eq_some_iff.1 h)
  obtain ⟨h1, h2⟩ := hl
  rw [List.drop_eq_getElem_cons h1, h2, chkTs]
theorem cell_blk {w : World} {b : Nat} {cs : List Value} {E : TypeId} {m : Nat × Nat} (hb : w.heap[b]? = some (.cells cs.toArray E m)) {j : Nat} {u : Value} (hu : cs[j]? = some u) : w.cell? ⟨b, j, none⟩ = some u := by
  have := World.news_of_block hb j u (by simpa using hu)
  rwa [Addr.add_mid, Nat.zero_add] at this
theorem cell_of_blk {w w' : World} {b j : Nat} (h : w'.heap[b]? = w.heap[b]?) : w'.cell? ⟨b, j, none⟩ = w.cell? ⟨b, j, none⟩ := by
  unfold World.cell?
  rw [h]
set_option maxRecDepth 100000 in
set_option maxHeartbeats 6400000 in
theorem check1_any (w0 : World) (cb fb : Nat) (hcb : w0.heap.size ≤ cb) (hne : fb ≠ cb) : ∀ (t : Lat) (k lo hi : Int) (an : Option Addr) (nn cn : Nat) (ap : Option Addr) (np cp : Nat) (ar : Option Addr) (nr cr : Nat) (d c : Nat) (w : World), LO w0 k lo hi an nn cn ap np cp ar nr cr t → Below w0.heap.size w0 w → CK w cb c → w.cell? ⟨fb, 0, none⟩ = some (.func (.func 33) #[] #[.pointer (some ⟨cb, 0, none⟩), .pointer (some ⟨fb, 0, none⟩)]) → fb < w.heap.size → c ≤ 64 → d ≤ 7 →
    Calls Try.prog 33 #[.agg #[.int .i64 k, .int .i64 lo, .int .i64 hi, .slice an nn cn, .slice ap np cp, .slice ar nr cr], .int .i64 (d : Nat), .pointer (some ⟨cb, 0, none⟩), .pointer (some ⟨fb, 0, none⟩)] w (ChkP cb (chkT t d c) w) := by
  refine lat_ind ?_
  intro k' lo' hi' ns' ps' rs' ih k lo hi an nn cn ap np cp ar nr cr d c w H hw hck hf hfl hc hd
  obtain ⟨T, hT⟩ : ∃ T, T = Lat.mk k' lo' hi' ns' ps' rs' := ⟨_, rfl⟩
  have hps : T.ps = ps' := by rw [hT]; rfl
  rw [← hT] at H ⊢
  clear hT
  obtain ⟨R, hR⟩ : ∃ R, R = chkT T d c := ⟨_, rfl⟩
  rw [← hR]
  have hR1 := hR.trans (chkT_eq T d c)
  rw [hps] at hR1
  have HR := hid_of hR1
  have HB := hid_of (bel_alloc w (.cells #[.int .i64 k, .int .i64 lo, .int .i64 hi, .slice an nn cn, .slice ap np cp, .slice ar nr cr] 26))
  have HK1 : Hid (Kept (fun k => k = cb) w (w.alloc (.cells #[.int .i64 k, .int .i64 lo, .int .i64 hi, .slice an nn cn, .slice ap np cp, .slice ar nr cr] 26))) := hid_of (Kept.ofBelow HB.out)
  have HCK := hid_of hck
  have HW := hid_of hw
  have hcell := (hck.at HB.out).cell
  have hfree := (hck.at HB.out).free
  have HF := hid_of hf
  have HFL := hid_of hfl
  have IH := hid_of ih
  have HP := hid_of H.p
  have HPL : Hid (np = ps'.length) := hid_of (by rw [← hps]; exact H.lp)
  rw [hps] at HP
  have hnp : np ≤ 9223372036854775807 := by have := H.p.len; omega
  have HH := hid_of H
  clear hR hR1 ih H hw hck hf hfl hps
  by_cases h6 : 6 < d
  · have RE : Hid (R = (c, 6)) := hid_of (by rw [HR.out, if_pos (.inl h6)])
    have d1 : decide (6 < d) = true := decide_eq_true h6
    have d1i : decide ((6 : Int) < (d : Int)) = true := decide_eq_true (by omega)
    clear h6
    go_enter Try.func33, Try.ntmps33
    go_wp2
    go_ret
    exact ⟨by rw [RE.out] <;> rfl, by rw [RE.out]; exact HCK.out.at HB.out, HK1.out⟩
  have d1 : decide (6 < d) = false := decide_eq_false h6
  have d1i0 : decide ((6 : Int) < (d : Int)) = false := decide_eq_false (by omega)
  by_cases h64 : c = 64
  · have RE : Hid (R = (c, 6)) := hid_of (by rw [HR.out, if_pos (.inr (by omega))])
    subst h64
    clear h6
    go_enter Try.func33, Try.ntmps33
    go_wp2
    go_ret
    exact ⟨by rw [RE.out] <;> rfl, by rw [RE.out]; exact HCK.out.at HB.out, HK1.out⟩
  have e64 : ((c : Int) == 64) = false := beq_eq_false_iff_ne.2 (by omega)
  have e64' : (c == 64) = false := beq_eq_false_iff_ne.2 h64
  have HR2 : Hid (R = _) := hid_of (HR.out.trans (if_neg (by omega)))
  have ec : ((c + 1 : Nat) : Int) = (c : Int) + 1 := by omega
  have C1 : Hid (CK ((w.setCell ⟨cb, 0, none⟩ (.int .i64 ((c : Int) + 1))).alloc (.cells #[.int .i64 k, .int .i64 lo, .int .i64 hi, .slice an nn cn, .slice ap np cp, .slice ar nr cr] 26)) cb (c + 1)) := hid_of (by have := HCK.out.set (d := c + 1); rw [ec] at this; exact this.at (bel_alloc _ _))
  have K1 : Hid (Kept (fun k => k = cb) w ((w.setCell ⟨cb, 0, none⟩ (.int .i64 ((c : Int) + 1))).alloc (.cells #[.int .i64 k, .int .i64 lo, .int .i64 hi, .slice an nn cn, .slice ap np cp, .slice ar nr cr] 26))) := hid_of ((Kept.set w cb 0 _).trans (Kept.ofBelow (bel_alloc _ _)))
  have X1 : Hid (((w.setCell ⟨cb, 0, none⟩ (.int .i64 ((c : Int) + 1))).alloc (.cells #[.int .i64 k, .int .i64 lo, .int .i64 hi, .slice an nn cn, .slice ap np cp, .slice ar nr cr] 26)).heap[w.heap.size]? = some (.cells [.int .i64 k, .int .i64 lo, .int .i64 hi, .slice an nn cn, .slice ap np cp, .slice ar nr cr].toArray 26 (0, 0))) := hid_of
    (by have := heap_alloc_new (w.setCell ⟨cb, 0, none⟩ (.int .i64 ((c : Int) + 1))) (.cells [.int .i64 k, .int .i64 lo, .int .i64 hi, .slice an nn cn, .slice ap np cp, .slice ar nr cr].toArray 26 (0, 0)); rwa [show (w.setCell ⟨cb, 0, none⟩ (.int .i64 ((c : Int) + 1))).heap.size = w.heap.size by simp] at this)
  have HWB : Hid (∀ w', Kept (fun k => k = cb) w w' → Below w0.heap.size w0 w') := hid_of (fun w' h => HW.out.trans (h.below HW.out.size (fun k hk => by omega)))
  have NC := hid_of (node_any T k lo hi an nn cn ap np cp ar nr cr ((w.setCell ⟨cb, 0, none⟩ (.int .i64 ((c : Int) + 1))).alloc (.cells #[.int .i64 k, .int .i64 lo, .int .i64 hi, .slice an nn cn, .slice ap np cp, .slice ar nr cr] 26)) (HH.out.at (HWB.out _ K1.out)))
  obtain ⟨E, hE⟩ : ∃ E, E = nodeE T := ⟨_, rfl⟩
  rw [← hE] at NC HR2
  have B0 := cell_blk X1.out (j := 0) rfl
  have B1 := cell_blk X1.out (j := 1) rfl
  have B2 := cell_blk X1.out (j := 2) rfl
  have B3 := cell_blk X1.out (j := 3) rfl
  have B4 := cell_blk X1.out (j := 4) rfl
  have B5 := cell_blk X1.out (j := 5) rfl
  have hne2 : cb ≠ w.heap.size := by have := HCK.out.lt; omega
  have hne3 : w.heap.size ≠ cb := fun h => hne2 h.symm
  have hlt2 : cb < w.heap.size := HCK.out.lt
  have H64 : Hid (c < 64) := hid_of (by omega)
  have H6 : Hid (d ≤ 6) := hid_of (by omega)
  have d9 : d ≤ 6 := H6.out
  have c9 : (c : Int) < 64 := by have := H64.out; omega
  clear hE h6 h64 ec hc hd
  by_cases h0 : E = 0
  case neg =>
    have RE : Hid (R = (c + 1, E)) := hid_of (by rw [HR2.out, if_pos h0])
    have e0 : (E == 0) = false := beq_eq_false_iff_ne.2 h0
    have e0' : (E != 0) = true := bne_iff_ne.2 h0
    clear h0
    go_enter Try.func33, Try.ntmps33
    go_wp2_with (go_at_call 34; (go_loud (refine (NC.out).mono ?_); (rintro e w2 ⟨rfl, h2⟩)); (have H2 := hid_of h2); clear h2)
    go_ret
    exact ⟨by rw [RE.out] <;> rfl, by rw [RE.out]; exact C1.out.at H2.out, K1.out.trans (Kept.ofBelow H2.out)⟩
  subst h0
  have HR3 : Hid (chkTs ps' (d + 1) (c + 1) = R) := hid_of (HR2.out.trans (if_neg (by simp))).symm
  have HX2 : Hid (∀ w2, Below (((w.setCell ⟨cb, 0, none⟩ (.int .i64 ((c : Int) + 1))).alloc (.cells #[.int .i64 k, .int .i64 lo, .int .i64 hi, .slice an nn cn, .slice ap np cp, .slice ar nr cr] 26))).heap.size ((w.setCell ⟨cb, 0, none⟩ (.int .i64 ((c : Int) + 1))).alloc (.cells #[.int .i64 k, .int .i64 lo, .int .i64 hi, .slice an nn cn, .slice ap np cp, .slice ar nr cr] 26)) w2 → w2.cell? ⟨w.heap.size, 4, none⟩ = some (.slice ap np cp)) := hid_of (fun w2 h => blk_kept X1.out h (j := 4) rfl)
  go_enter Try.func33, Try.ntmps33
  go_wp2_with (go_at_call 34; (go_loud (refine (NC.out).mono ?_); (rintro e w2 ⟨rfl, h2⟩)); (have H2 := hid_of h2); (have s4 := HX2.out w2 h2); clear h2)
  have C2 : Hid (CK w2 cb (c + 1)) := hid_of (C1.out.at H2.out)
  have K2 : Hid (Kept (fun k => k = cb) w w2) := hid_of (K1.out.trans (Kept.ofBelow H2.out))
  clear s4 B0 B1 B2 B3 B4 B5 hcell hfree
  go_loopw [27] (fun iv wr => ∃ i ci : Nat, iv = .int .i64 i ∧ i ≤ np ∧ Hid (chkTs (ps'.drop i) (d + 1) ci = R) ∧ Hid (CK wr cb ci) ∧ Hid (ci ≤ 64) ∧ Hid (Kept (fun k => k = cb) w wr)) (fun iv _ => np - (intOf iv).toNat)
  case atStart => exact ⟨0, c + 1, rfl, Nat.zero_le _, hid_of HR3.out, C2, hid_of H64.out, K2⟩
  case round =>
    obtain ⟨i, ci, rfl, hi, hm, hck, hci, hk⟩ := hrel
    by_cases hlt : i < np
    · have d2 : decide (i < np) = true := decide_eq_true hlt
      have hlt' : (i : Int) < (np : Int) := by omega
      have HLT := hid_of hlt
      obtain ⟨u, hu⟩ : ∃ u, ps'[i]? = some u := ⟨_, List.getElem?_eq_getElem (by have := HPL.out; omega)⟩
      obtain ⟨g, o, kA, loA, hiA, anA, nnA, cnA, apA, npA, cpA, arA, nrA, crA, rfl, LA, hcA⟩ := HP.out.get hu
      obtain ⟨a0, a1, a2, a3, a4, a5⟩ := hcA wr (HWB.out wr hk.out)
      have hkb : Kept (fun k => k = cb) w (wr.alloc (.cells #[.int .i64 kA, .int .i64 loA, .int .i64 hiA, .slice anA nnA cnA, .slice apA npA cpA, .slice arA nrA crA] 26)) := hk.out.trans (Kept.ofBelow (bel_alloc wr _))
      have KB := hid_of hkb
      have hfl : fb < wr.heap.size := Nat.lt_of_lt_of_le HFL.out hk.out.size
      have hfw : wr.cell? ⟨fb, 0, none⟩ = some (.func (.func 33) #[] #[.pointer (some ⟨cb, 0, none⟩), .pointer (some ⟨fb, 0, none⟩)]) := (cell_of_blk (hk.out.block fb HFL.out hne)).trans HF.out
      have hfw2 : (wr.alloc (.cells #[.int .i64 kA, .int .i64 loA, .int .i64 hiA, .slice anA nnA cnA, .slice apA npA cpA, .slice arA nrA crA] 26)).cell? ⟨fb, 0, none⟩ = some (.func (.func 33) #[] #[.pointer (some ⟨cb, 0, none⟩), .pointer (some ⟨fb, 0, none⟩)]) := ((bel_alloc wr _).cell (p := ⟨fb, 0, none⟩) hfl).trans hfw
      have CALL := hid_of (IH.out u (List.mem_of_getElem? hu) kA loA hiA anA nnA cnA apA npA cpA arA nrA crA (d + 1) ci (wr.alloc (.cells #[.int .i64 kA, .int .i64 loA, .int .i64 hiA, .slice anA nnA cnA, .slice apA npA cpA, .slice arA nrA crA] 26)) LA (HWB.out _ hkb) (hck.out.at (bel_alloc wr _)) hfw2 (Nat.lt_of_lt_of_le hfl (by simp)) hci.out (by have := H6.out; omega))
      have HS := hid_of (hm.out.symm.trans (chkTs_step hu))
      have HLE := hid_of (chkT_le u (d + 1) ci hci.out)
      obtain ⟨q, hq⟩ : ∃ q, q = chkT u (d + 1) ci := ⟨_, rfl⟩
      rw [← hq] at CALL HS HLE
      obtain ⟨qc, qe⟩ := q
      simp only at HS HLE
      clear hq hlt hu hcA LA hkb
      by_cases h0 : qe = 0
      · subst h0
        have HS2 : Hid (chkTs (ps'.drop (i + 1)) (d + 1) qc = R) := hid_of (HS.out.trans (if_neg (by simp))).symm
        go_wp2_with (go_at_call 33; go_loud (refine (CALL.out).mono ?_; rintro e w3 ⟨rfl, h3, h4⟩; have C3 := hid_of h3; have K3 := hid_of h4; clear h3 h4))
        go_roundw
        case rel => exact ⟨i + 1, qc, by go_num, HLT.out, HS2, C3, hid_of HLE.out.2, hid_of (KB.out.trans K3.out)⟩
        case measure => have := HLT.out; simp [intOf]; omega
      · have e0 : (qe == 0) = false := beq_eq_false_iff_ne.2 h0
        have e0' : (qe != 0) = true := bne_iff_ne.2 h0
        have RE : Hid (R = (qc, qe)) := hid_of (HS.out.trans (if_pos h0))
        clear h0
        go_wp2_with (go_at_call 33; go_loud (refine (CALL.out).mono ?_; rintro e w3 ⟨rfl, h3, h4⟩; have C3 := hid_of h3; have K3 := hid_of h4; clear h3 h4))
        go_ret
        exact ⟨by rw [RE.out] <;> rfl, by rw [RE.out]; exact C3.out, KB.out.trans K3.out⟩
    · have d2 : decide (i < np) = false := decide_eq_false hlt
      have RE : Hid (R = (ci, 0)) := hid_of (by rw [← hm.out, List.drop_eq_nil_of_le (by have := HPL.out; omega), chkTs])
      clear hlt
      go_wp2
      go_ret
      exact ⟨by rw [RE.out] <;> rfl, by rw [RE.out]; exact hck.out, hk.out⟩
end Go.Proofs.Ytoogcafceghdjaa
