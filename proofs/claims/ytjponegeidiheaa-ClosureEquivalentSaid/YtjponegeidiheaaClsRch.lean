/- The reference's chain. Bounds on sizes alone. -/
import Derived.Test.YtjponegeidiheaaClsRcl
import Derived.Test.YtjponegeidiheaaClsSrt
namespace Go.Proofs.Ytjponegeidiheaa
open Go.RowKit

/-- append of a row onto a row of the call's own: what else stays. -/
theorem wpList_app2 {P : Program} {S E : TypeId} {z : Value} {eb : Nat} (T : Elem P S E z eb) {ops : Array Oper} {rest : List Oper} {o : Oper} {a : Act} {w : World} {Q : Exit → Act → World → Prop} (hgd : o.guard = none) (s x : Operand)
    (ho : o.op = .call { callee := .builtin .append, args := #[s, x], argTypes := #[S, S] })
    {B : Nat} {v : Value} {l : List Value} (hv : a.eval s = v) (H : w.ownsRow B E 1 v l.length l) (hB : B ≤ w.heap.size) {vx : Value} {m : List Value} (hx : a.eval x = vx) (L : Rd w vx m) (h1 : ∀ u ∈ m, u.oneCell' = true) (hl : (l.length + m.length) * eb ≤ 140737488355328) (hl2 : l.length + m.length ≤ 140737488355328)
    (h : ∀ (ao : Option Addr) (n cap : Nat) (w' : World), n = l.length + m.length → w'.ownsRow B E 1 (.slice ao n cap) n (l ++ m) → w.grownBy w' v.ownBlock → ((Value.slice ao n cap).ownBlock = v.ownBlock ∨ (Value.slice ao n cap).ownBlock = some w.heap.size) → wpList P ops Q rest (a.put o.dst (.slice ao n cap)) w') :
    wpList P ops Q (o :: rest) a w := by
  obtain ⟨i0, hi, hz0, hz1, hz2⟩ := info_parts T.info
  refine wpList_append_src _ hgd s x S S ho B E i0 z 1 eb T.und hi hz0 hz1 hz2 T.one (by decide) v l.length l hv H vx m.length m hx (L.srcs T h1) (by unfold maxLen; omega) (by omega) hB ?_
  intro v2 w2 hown hg _ hf
  obtain ⟨ao, cap, rfl⟩ := own_shape hown
  exact h ao _ cap w2 rfl hown hg hf

theorem own_at1 {w : World} {B E n : Nat} {cap : Nat} {xo : Option Addr} {xs : List Value} (h : w.ownsRow B E 1 (.slice xo n cap) n xs) (h0 : 0 < n) : ∃ g, xo = some ⟨g, 0, none⟩ ∧ g < w.heap.size ∧ ∀ j u, xs[j]? = some u → w.cell? ⟨g, j, none⟩ = some u := by
  obtain ⟨h1, h2⟩ := h
  rcases h2 with ⟨_, h2⟩ | ⟨g, cap2, cur, hv, hb, hg, hnc, hcm, hsz, ht⟩
  · omega
  · cases hv
    refine ⟨g, rfl, lt_of_block hg, fun j u hu => ?_⟩
    have := World.news_of_block hg j u (by
      rw [← ht, List.getElem?_take] at hu
      split at hu
      · exact hu
      · cases hu)
    rw [Addr.add_mid, Nat.zero_add] at this
    exact this
theorem own_len1 {w : World} {B E n s : Nat} {cap : Nat} {xo : Option Addr} {xs : List Value} (h : w.ownsRow B E s (.slice xo n cap) n xs) : n ≤ cap ∧ cap ≤ 9223372036854775807 := by
  rcases h.2 with ⟨h1, h2⟩ | ⟨g, cap2, cur, hv, hb, hg, hnc, hcm, hsz, ht⟩
  · cases h1
    exact ⟨by omega, by omega⟩
  · cases hv
    unfold maxLen at hcm
    omega
theorem rd_of_own1 {w : World} {B : Nat} {E : TypeId} {xo : Option Addr} {nn xc : Nat} {l : List Value} (h : w.ownsRow B E 1 (.slice xo nn xc) nn l) (hl : l.length = nn) : Rd w (.slice xo nn xc) l := by
  subst hl
  refine ⟨xo, xc, rfl, (own_len1 h).1, (own_len1 h).2, fun h0 => ?_⟩
  obtain ⟨g, rfl, hg, hc⟩ := own_at1 h h0
  refine ⟨g, 0, rfl, hg, fun i t ht => ?_⟩
  rw [Nat.zero_add]
  exact hc _ _ ht

/-- Two rows of the call's own: names and numbers. -/
structure TR (w : World) (l : List Str) (is : List Nat) (oo : Option Addr) (n oc : Nat) (uo : Option Addr) (m uc : Nat) (wr : World) : Prop where
  bel : Below w.heap.size w wr
  hn : (ss l).length = n
  hm : (ints is).length = m
  out : wr.ownsRow w.heap.size 9 1 (.slice oo n oc) (ss l).length (ss l)
  use : wr.ownsRow w.heap.size 3 1 (.slice uo m uc) (ints is).length (ints is)
  dis : ∀ g, (Value.slice oo n oc).ownBlock = some g → (Value.slice uo m uc).ownBlock ≠ some g
section
variable {w wr w2 : World} {l : List Str} {is : List Nat} {oo uo ao : Option Addr} {n oc m uc n2 cap : Nat} {x : Str} {i : Nat}
theorem TR.size (h : TR w l is oo n oc uo m uc wr) : w.heap.size ≤ wr.heap.size := h.bel.size
theorem TR.oA (h : TR w l is oo n oc uo m uc wr) (o : Obj) : (wr.alloc o).ownsRow w.heap.size 9 1 (.slice oo n oc) (ss l).length (ss l) := h.out.alloc o
theorem TR.uA (h : TR w l is oo n oc uo m uc wr) (o : Obj) : (wr.alloc o).ownsRow w.heap.size 3 1 (.slice uo m uc) (ints is).length (ints is) := h.use.alloc o
theorem TR.sA (h : TR w l is oo n oc uo m uc wr) (o : Obj) : w.heap.size ≤ (wr.alloc o).heap.size := Nat.le_trans h.size (by simp)
theorem TR.rd (h : TR w l is oo n oc uo m uc wr) : Rd wr (.slice oo n oc) (ss l) := by
  have h1 := h.out
  rw [h.hn] at h1
  exact rd_of_own1 h1 h.hn
theorem TR.call (h : TR w l is oo n oc uo m uc wr) (hb : Below wr.heap.size wr w2) : TR w l is oo n oc uo m uc w2 :=
  ⟨h.bel.trans (hb.mono h.size), h.hn, h.hm, own_same h.out fun k hk => hb.block k (h.out.lt k hk).2, own_same h.use fun k hk => hb.block k (h.use.lt k hk).2, h.dis⟩
theorem TR.addO (h : TR w l is oo n oc uo m uc wr) {o : Obj} (hn2 : n2 = (ss l).length + 1) (hown : w2.ownsRow w.heap.size 9 1 (.slice ao n2 cap) n2 (ss l ++ [.string (ba x)])) (hg : (wr.alloc o).grownBy w2 (Value.slice oo n oc).ownBlock) (hf : (Value.slice ao n2 cap).ownBlock = (Value.slice oo n oc).ownBlock ∨ (Value.slice ao n2 cap).ownBlock = some (wr.alloc o).heap.size) :
    n2 = n + 1 ∧ TR w (l ++ [x]) is ao n2 cap uo m uc w2 := by
  have hl : (ss (l ++ [x])).length = n2 := by rw [hn2]; simp [ss]
  have hb := h.bel.trans ((bel_alloc wr o).mono h.size)
  refine ⟨by rw [hn2, h.hn], hb.grown hg (h.sA o) (fun k hk => (h.out.lt k hk).1), hl, h.hm, ?_, own_same (h.uA o) fun k hk => hg.block k ((h.uA o).lt k hk).2 (fun e => h.dis k e.symm hk), fun g hg1 hg2 => ?_⟩
  · rw [hl, show ss (l ++ [x]) = ss l ++ [.string (ba x)] by simp [ss]]; exact hown
  · rcases hf with hf | hf
    · exact h.dis g (hf.symm.trans hg1) hg2
    · have h1 := (h.use.lt g hg2).2
      rw [hg1] at hf
      simp at hf
      omega
theorem TR.addU (h : TR w l is oo n oc uo m uc wr) {o : Obj} (hn2 : n2 = (ints is).length + 1) (hown : w2.ownsRow w.heap.size 3 1 (.slice ao n2 cap) n2 (ints is ++ [.int .i64 (i : Int)])) (hg : (wr.alloc o).grownBy w2 (Value.slice uo m uc).ownBlock) (hf : (Value.slice ao n2 cap).ownBlock = (Value.slice uo m uc).ownBlock ∨ (Value.slice ao n2 cap).ownBlock = some (wr.alloc o).heap.size) :
    n2 = m + 1 ∧ TR w l (is ++ [i]) oo n oc ao n2 cap w2 := by
  have hl : (ints (is ++ [i])).length = n2 := by rw [hn2, ints_length, ints_length]; simp
  have hb := h.bel.trans ((bel_alloc wr o).mono h.size)
  refine ⟨by rw [hn2, h.hm], hb.grown hg (h.sA o) (fun k hk => (h.use.lt k hk).1), h.hn, hl, own_same (h.oA o) fun k hk => hg.block k ((h.oA o).lt k hk).2 (fun e => h.dis k hk e.symm), ?_, fun g hg1 hg2 => ?_⟩
  · rw [hl, ints_append]; exact hown
  · rcases hf with hf | hf
    · exact h.dis g hg1 (hf.symm.trans hg2)
    · have h1 := (h.out.lt g hg1).2
      rw [hg2] at hf
      simp at hf
      omega
/-- The first row stands; the second is made. -/
theorem TR.start (H : Ow 9 w.heap.size w wr (.slice oo n oc) (ss l)) (hn : (ss l).length = n) : TR w l [] oo n oc (some ⟨wr.heap.size, 0, none⟩) 0 0 (wr.alloc (.cells #[] 3)) := by
  refine ⟨H.bel.alloc H.size _, hn, rfl, H.own.alloc _, ((ow_empty 3 wr).start (Nat.le_refl _) H.bel H.size).own, fun g hg1 hg2 => ?_⟩
  have := (H.own.lt g hg1).2
  simp only [Value.ownBlock, Option.some.injEq] at hg2
  omega
end

/-- Rules whose conclusion is lacking. -/
def lkR (rs : List Gr) (l : List Str) : Nat := rs.countP fun r => decide (r.2 ∉ l)
theorem lkR_le (rs : List Gr) (l : List Str) : lkR rs l ≤ rs.length := List.countP_le_length
theorem lkR_add {rs : List Gr} {l : List Str} {r : Gr} (hr : r ∈ rs) (h : r.2 ∉ l) : lkR rs (l ++ [r.2]) + 1 ≤ lkR rs l := by
  unfold lkR
  have hmono : ∀ qs : List Gr, (qs.countP fun q => decide (q.2 ∉ l ++ [r.2])) ≤ qs.countP fun q => decide (q.2 ∉ l) := fun qs => List.countP_mono_left fun q _ hq => by
    simp at hq ⊢
    exact hq.1
  induction rs with
  | nil => cases hr
  | cons a rs ih =>
    rw [List.countP_cons, List.countP_cons]
    rcases List.mem_cons.1 hr with rfl | hr
    · have h1 : (decide (r.2 ∉ l ++ [r.2])) = false := by simp
      have h2 : (decide (r.2 ∉ l)) = true := by simp [h]
      rw [h1, h2]
      have := hmono rs
      simp only [if_true, Bool.false_eq_true, if_false]
      omega
    · have := ih hr
      have h3 : (if decide (a.2 ∉ l ++ [r.2]) = true then 1 else 0) ≤ (if decide (a.2 ∉ l) = true then 1 else 0 : Nat) := by
        by_cases e : a.2 ∈ l
        · simp [e]
        · split <;> simp [e]
      omega
/-- What forward chaining keeps. -/
structure CI (rs : List Gr) (s l : List Str) (is : List Nat) (k : Nat) : Prop where
  sub : ∀ x ∈ s, x ∈ l
  der : ∀ x ∈ l, DerS rs (fun x => x ∈ s) x
  sat : ∀ r ∈ rs.take k, subB r.1 l = true → r.2 ∈ l
  cnt : l.length + lkR rs l ≤ s.length + rs.length
  use : is.length + s.length = l.length
theorem CI.start (rs : List Gr) (s : List Str) : CI rs s s [] 0 := ⟨fun _ h => h, fun _ h => .base h, fun r h => (by simp at h), by have := lkR_le rs s; omega, by simp⟩
theorem CI.next {rs : List Gr} {s l : List Str} {is : List Nat} {k : Nat} {r : Gr} (h : CI rs s l is k) (hr : rs[k]? = some r) (hs : subB r.1 l = true → r.2 ∈ l) : CI rs s l is (k + 1) :=
  ⟨h.sub, h.der, fun q hq hp => by
    rw [take_snoc_get hr, List.mem_append, List.mem_singleton] at hq
    rcases hq with hq | rfl
    · exact h.sat q hq hp
    · exact hs hp, h.cnt, h.use⟩
theorem CI.fire {rs : List Gr} {s l : List Str} {is : List Nat} {k : Nat} {r : Gr} (h : CI rs s l is k) (hr : rs[k]? = some r) (hs : subB r.1 l = true) (hn : r.2 ∉ l) : CI rs s (l ++ [r.2]) (is ++ [k]) 0 ∧ l.length + 1 ≤ s.length + rs.length := by
  have hm := List.mem_of_getElem? hr
  have h1 := lkR_add hm hn
  have h2 := h.cnt
  have h3 := h.use
  refine ⟨⟨fun x hx => List.mem_append_left _ (h.sub x hx), fun x hx => ?_, fun q hq => (by simp at hq), by rw [List.length_append, List.length_singleton]; omega, by rw [List.length_append, List.length_append, List.length_singleton, List.length_singleton]; omega⟩, by omega⟩
  rcases List.mem_append.1 hx with hx | hx
  · exact h.der x hx
  · rw [List.mem_singleton.1 hx]
    exact .rule hm fun y hy => h.der y (subB_iff.1 hs y hy)
theorem CI.done {rs : List Gr} {s l : List Str} {is : List Nat} {k : Nat} (h : CI rs s l is k) (hk : rs.length ≤ k) (x : Str) : x ∈ l ↔ DerS rs (fun x => x ∈ s) x := by
  refine ⟨h.der x, fun hx => derS_least (C := fun x => x ∈ l) (fun r hr hp => h.sat r ?_ (subB_iff.2 hp)) h.sub hx⟩
  rw [List.take_of_length_le hk]; exact hr
def lenOf : Value → Nat
  | .slice _ n _ => n
  | _ => 0
theorem down_mul {A n k rn : Nat} (hk : k ≤ rn) (h : n + 1 ≤ A) : (A - (n + 1)) * (rn + 1) + rn < (A - n) * (rn + 1) + (rn - k) := by
  obtain ⟨d, rfl⟩ : ∃ d, A = n + 1 + d := ⟨A - (n + 1), by omega⟩
  rw [show n + 1 + d - (n + 1) = d by omega, show n + 1 + d - n = d + 1 by omega, Nat.succ_mul]
  omega
def ChnP (w : World) (rs : List Gr) (s : List Str) (e : Ending) (w' : World) : Prop :=
  ∃ (l : List Str) (is : List Nat) (oo : Option Addr) (n oc : Nat) (uo : Option Addr) (m uc : Nat), e = .returned (.tuple #[.slice oo n oc, .slice uo m uc]) ∧ TR w l is oo n oc uo m uc w' ∧ (∀ x, x ∈ l ↔ DerS rs (fun x => x ∈ s) x)

set_option maxRecDepth 100000 in
set_option maxHeartbeats 1600000 in
theorem rchn_any (ro : Option Addr) (rn rc : Nat) (rs : List Gr) (so : Option Addr) (sn sc : Nat) (s : List Str) (w : World) (hR : RuR w (.slice ro rn rc) rs) (hS : Rd w (.slice so sn sc) (ss s)) (hrn : rn ≤ 1000000) (hsn : sn ≤ 1000000) :
    Calls Try.prog 50 #[.slice ro rn rc, .slice so sn sc] w (ChnP w rs s) := by
  obtain ⟨hm, h4⟩ := hR.len
  obtain ⟨hs1, _, _, _⟩ := rds_open hS
  have HM := hid_of hm
  have HSL := hid_of hs1
  have HRU : Hid (∀ k l is oo n oc uo m uc wr, k < rn → TR w l is oo n oc uo m uc wr → ∃ g o a c bx r, ro = some ⟨g, o, none⟩ ∧ rs[k]? = some r ∧ bx = ba r.2 ∧ wr.cell? ⟨g, o + k * 2, none⟩ = some (.slice a r.1.length c) ∧ wr.cell? ⟨g, o + k * 2 + 1, none⟩ = some (.string bx) ∧ g < wr.heap.size ∧
      (∀ W, Below w.heap.size w W → W.cell? ⟨g, o + k * 2 + 1, none⟩ = some (.string bx)) ∧
      Hid (Calls Try.prog 25 #[.slice a r.1.length c, .slice oo n oc] wr fun e w' => e = .returned (.bool (subB r.1 l)) ∧ wr = w') ∧ Hid (Calls Try.prog 26 #[.slice oo n oc, .string bx] wr fun e w' => e = .returned (.bool (decide (r.2 ∈ l))) ∧ wr = w')) := hid_of (fun k l is oo n oc uo m uc wr hk ht => by
    obtain ⟨r, hr⟩ : ∃ r, rs[k]? = some r := ⟨_, List.getElem?_eq_getElem (by omega)⟩
    obtain ⟨g, o, a, c, e, c0, c1, rr⟩ := (hR.at ht.bel).get hr
    have hrr := ht.rd
    refine ⟨g, o, a, c, _, r, e, hr, rfl, c0, c1, World.block_lt_of_cell? _ _ c1, fun W hW => ?_, hid_of (rsub_any a _ c r.1 oo n oc l wr rr hrr), hid_of (rhas_any oo n oc l r.2 wr hrr)⟩
    obtain ⟨g', o', a', c', e', _, c1', _⟩ := (hR.at hW).get hr
    rw [e] at e'
    cases e'
    exact c1')
  have HS := hid_of hS
  clear hm hR hS hs1 h4
  go_enter Try.func50, Try.ntmps50
  go_wp2_with (at_builtin; (refine wpList_app strsE rfl (.tmp 9) (.tmp 10) rfl (v := .slice (some ⟨w.heap.size, 0, none⟩) 0 0) (l := []) rfl (ow_empty 9 w) (vx := .slice so sn sc) (m := ss s) rfl (HS.out.at (bel_alloc w _)) (by intro u hu; obtain ⟨y, _, rfl⟩ := List.mem_map.1 hu; rfl) (by have := HSL.out; simp [ss]; omega) (by have := HSL.out; simp [ss]; omega) ?_); intro ao1 n1 cap1 w1 e1 h5; have HN1 : Hid ((ss s).length = n1) := hid_of (by rw [e1]; simp); have HT0 := hid_of (TR.start (by simpa using h5) HN1.out); clear e1 h5)
  go_loopw [6, 7, 8] (fun ov uv iv wr => ∃ (l : List Str) (is : List Nat) (oo : Option Addr) (n oc : Nat) (uo : Option Addr) (m uc k : Nat), ov = .slice oo n oc ∧ uv = .slice uo m uc ∧ k ≤ rn ∧ iv = .int .i64 k ∧ Hid (TR w l is oo n oc uo m uc wr) ∧ Hid (CI rs s l is k)) (fun ov _ iv _ => (s.length + rs.length - lenOf ov) * (rn + 1) + (rn - (intOf iv).toNat))
  case atStart => exact ⟨s, [], ao1, n1, cap1, _, 0, 0, 0, rfl, rfl, Nat.zero_le _, rfl, HT0, hid_of (CI.start rs s)⟩
  case round =>
    obtain ⟨l, is, oo, n, oc, uo, m, uc, k, rfl, rfl, hk, rfl, ht, hc⟩ := hrel
    by_cases hlt : k < rn
    · have hd : decide (k < rn) = true := by simp; omega
      obtain ⟨g, o, a, c, bx, r, rfl, e1, ebx, c0, c1, hg, hW, HSB, HH⟩ := HRU.out k l is oo n oc uo m uc wr hlt ht.out
      obtain ⟨pl, hpl⟩ : ∃ pl, pl = r.1.length := ⟨_, rfl⟩
      obtain ⟨b1, hb1⟩ : ∃ b, b = subB r.1 l := ⟨_, rfl⟩
      obtain ⟨b2, hb2⟩ : ∃ b, b = decide (r.2 ∈ l) := ⟨_, rfl⟩
      rw [← hpl, ← hb1] at HSB
      rw [← hpl] at c0
      rw [← hb2] at HH
      have E1 := hid_of e1
      have HB1 := hid_of hb1
      have HB2 := hid_of hb2
      have HBX := hid_of ebx
      have HW := hid_of hW
      clear e1 hpl hb1 hb2 ebx hW
      cases b1
      · have HN := hid_of (hc.out.next E1.out (fun h => by rw [← HB1.out] at h; cases h))
        go_wp2_with (go_at_call 25; ((with_reducible refine (HSB.out).mono ?_); (rintro ee w' ⟨rfl, rfl⟩)))
        go_roundw
        case rel => exact ⟨l, is, oo, n, oc, uo, m, uc, k + 1, rfl, rfl, by omega, by go_num, ht, HN⟩
        case measure => simp [intOf, lenOf]; omega
      · cases b2
        · have HF := hid_of (hc.out.fire E1.out HB1.out.symm (of_decide_eq_false HB2.out.symm))
          have HLS : Hid ((ss l).length = n ∧ (ints is).length = m ∧ n + 1 ≤ s.length + rs.length ∧ m ≤ n ∧ n + 1 ≤ 2000000) := hid_of (by
            have h1 := ht.out.hn
            have h2 := ht.out.hm
            have h3 := HF.out.2
            have h4 := hc.out.use
            have h5 := HM.out
            have h6 := HSL.out
            have h7 : (ss l).length = l.length := by simp [ss]
            rw [ints_length] at h2
            refine ⟨h1, by rw [ints_length]; exact h2, ?_, ?_, ?_⟩ <;> omega)
          have HT1 : Hid (∀ ao2 n2 cap2 w2, n2 = (ss l).length + 1 → w2.ownsRow w.heap.size 9 1 (.slice ao2 n2 cap2) n2 (ss l ++ [.string bx]) → (wr.alloc (.cells #[.string bx] 9)).grownBy w2 (Value.slice oo n oc).ownBlock → ((Value.slice ao2 n2 cap2).ownBlock = (Value.slice oo n oc).ownBlock ∨ (Value.slice ao2 n2 cap2).ownBlock = some (wr.alloc (.cells #[.string bx] 9)).heap.size) → n2 = n + 1 ∧ TR w (l ++ [r.2]) is ao2 n2 cap2 uo m uc w2) := hid_of (by
            rw [HBX.out]
            exact fun ao2 n2 cap2 w2 => ht.out.addO)
          have HMS : Hid ((s.length + rs.length - (n + 1)) * (rn + 1) + rn < (s.length + rs.length - n) * (rn + 1) + (rn - k)) := hid_of (down_mul hk HLS.out.2.2.1)
          go_wp2_with (first
            | (go_at_call 25; ((with_reducible refine (HSB.out).mono ?_); (rintro ee w' ⟨rfl, rfl⟩)))
            | (go_at_call 26; ((with_reducible refine (HH.out).mono ?_); (rintro ee w' ⟨rfl, rfl⟩)))
            | (at_builtin; (refine wpList_app2 strsE rfl (.tmp 36) (.tmp 42) rfl (v := .slice oo n oc) (l := ss l) rfl (ht.out.oA _) (ht.out.sA _) (vx := .slice (some ⟨wr.heap.size, 0, none⟩) 1 1) (m := [.string bx]) rfl (rd_new rfl rfl (by simp)) (by intro u hu; rw [List.mem_singleton.1 hu]; rfl) (by have := HLS.out; simp only [List.length_singleton]; omega) (by have := HLS.out; simp only [List.length_singleton]; omega) ?_); intro ao2 n2 cap2 w2 e1 e2 e3 e4; have HT2 := hid_of (HT1.out ao2 n2 cap2 w2 e1 e2 e3 e4); clear e1 e2 e3 e4; have c1b := HW.out w2 HT2.out.2.bel)
            | (at_builtin; (refine wpList_app2 intsE rfl (.tmp 44) (.tmp 46) rfl (v := .slice uo m uc) (l := ints is) rfl (HT2.out.2.uA _) (HT2.out.2.sA _) (vx := .slice (some ⟨w2.heap.size, 0, none⟩) 1 1) (m := [.int .i64 (k : Int)]) rfl (rd_new rfl rfl (by simp)) (by intro u hu; rw [List.mem_singleton.1 hu]; rfl) (by have := HLS.out; simp only [List.length_singleton]; omega) (by have := HLS.out; simp only [List.length_singleton]; omega) ?_); intro ao3 n3 cap3 w3 e1 e2 e3 e4; have HT3 := hid_of (HT2.out.2.addU e1 e2 e3 e4); clear e1 e2 e3 e4))
          go_roundw
          case rel => exact ⟨l ++ [r.2], is ++ [k], ao2, n2, cap2, ao3, n3, cap3, 0, rfl, rfl, Nat.zero_le _, by go_num, hid_of HT3.out.2, hid_of HF.out.1⟩
          case measure =>
            have h1 := HMS.out
            rw [← HT2.out.1] at h1
            simp [intOf, lenOf]
            exact h1
        · have HN := hid_of (hc.out.next E1.out (fun _ => of_decide_eq_true HB2.out.symm))
          go_wp2_with (first
            | (go_at_call 25; ((with_reducible refine (HSB.out).mono ?_); (rintro ee w' ⟨rfl, rfl⟩)))
            | (go_at_call 26; ((with_reducible refine (HH.out).mono ?_); (rintro ee w' ⟨rfl, rfl⟩))))
          go_roundw
          case rel => exact ⟨l, is, oo, n, oc, uo, m, uc, k + 1, rfl, rfl, by omega, by go_num, ht, HN⟩
          case measure => simp [intOf, lenOf]; omega
    · have hd : decide (k < rn) = false := by simp; omega
      have HD := hid_of (hc.out.done (by have := HM.out; omega))
      go_wp2
      go_ret2
      exact ⟨l, is, oo, n, oc, uo, m, uc, rfl, ht.out, HD.out⟩
end Go.Proofs.Ytjponegeidiheaa
