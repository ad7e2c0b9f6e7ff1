/- Texts in one: ClsRch, ClsIn, ClsLec, ClsWlk, ClsBel, ClsWal, ClsAll1. -/
import Derived.Test.YtedohggbpmcehaaMgRD
import Derived.SliceStrings
import Derived.Deep.Strs
import Derived.ProofKit
import Derived.Test.YtedohggbpmcehaaRows
import Derived.Shelf.Abstract
import Derived.Laws.EntriesVeiled
/- The reference's chain. Bounds on sizes alone. -/
namespace Go.Proofs.Ytedohggbpmcehaa
open Go.RowKit

/-- append of a row onto a row of the call's own: what else stays. -/
theorem wpList_app2 {P : Program} {S E : TypeId} {z : Value} {eb : Nat} (T : Elem P S E z eb) {ops : Array Oper} {rest : List Oper} {o : Oper} {a : Act} {w : World} {Q : Exit → Act → World → Prop} (hgd : o.guard = none) (s x : Operand)
    (ho : o.op = .call { callee := .builtin .append, args := #[s, x], argTypes := #[S, S] })
    {B : Nat} {v : Value} {l : List Value} (hv : a.eval s = v) (H : w.ownsRow B E 1 v l.length l) (hB : B ≤ w.heap.size) {vx : Value} {m : List Value} (hx : a.eval x = vx) (L : Rd w vx m) (h1 : ∀ u ∈ m, u.oneCell' = true) (hl : (l.length + m.length) * eb ≤ 140737488355328) (hl2 : l.length + m.length ≤ 140737488355328)
    (h : ∀ (ao : Option Addr) (n cap : Nat) (w' : World), n = l.length + m.length → w'.ownsRow B E 1 (.slice ao n cap) n (l ++ m) → w.grownBy w' v.ownBlock → ((Value.slice ao n cap).ownBlock = v.ownBlock ∨ (Value.slice ao n cap).ownBlock = some w.heap.size) → wpList P ops Q rest (a.put o.dst (.slice ao n cap)) w') :
    wpList P ops Q (o :: rest) a w := by
  obtain ⟨i0, hi, hz0, hz1, hz2⟩ := info_parts T.info
  refine wpList_append_src _ hgd s x S S ho B E i0 z 1 eb T.und hi hz0 hz1 hz2 T.one (by decide) v l.length l hv H vx m.length m hx (L.srcs T h1) (by unfold maxLen; omega) (by omega) hB ?_
  intro v2 w2 hown hg _ hf
  obtain ⟨ao, cap, rfl⟩ := own_shape hown
  exact h ao _ cap w2 rfl hown hg hf

theorem own_at1 {w : World} {B E n : Nat} {cap : Nat} {xo : Option Addr} {xs : List Value} (h : w.ownsRow B E 1 (.slice xo n cap) n xs) (h0 : 0 < n) : ∃ g, xo = some ⟨g, 0, none⟩ ∧ g < w.heap.size ∧ ∀ j u, xs[j]? = some u → w.cell? ⟨g, j, none⟩ = some u := by
  obtain ⟨h1, h2⟩ := h
  rcases h2 with ⟨_, h2⟩ | ⟨g, cap2, cur, hv, hb, hg, hnc, hcm, hsz, ht⟩
  · omega
  · cases hv
    refine ⟨g, rfl, lt_of_block hg, fun j u hu => ?_⟩
    have := World.news_of_block hg j u (by
      rw [← ht, List.getElem?_take] at hu
      split at hu
      · exact hu
      · cases hu)
    rw [Addr.add_mid, Nat.zero_add] at this
    exact this
theorem own_len1 {w : World} {B E n s : Nat} {cap : Nat} {xo : Option Addr} {xs : List Value} (h : w.ownsRow B E s (.slice xo n cap) n xs) : n ≤ cap ∧ cap ≤ 9223372036854775807 := by
  rcases h.2 with ⟨h1, h2⟩ | ⟨g, cap2, cur, hv, hb, hg, hnc, hcm, hsz, ht⟩
  · cases h1
    exact ⟨by omega, by omega⟩
  · cases hv
    unfold maxLen at hcm
    omega
theorem rd_of_own1 {w : World} {B : Nat} {E : TypeId} {xo : Option Addr} {nn xc : Nat} {l : List Value} (h : w.ownsRow B E 1 (.slice xo nn xc) nn l) (hl : l.length = nn) : Rd w (.slice xo nn xc) l := by
  subst hl
  refine ⟨xo, xc, rfl, (own_len1 h).1, (own_len1 h).2, fun h0 => ?_⟩
  obtain ⟨g, rfl, hg, hc⟩ := own_at1 h h0
  refine ⟨g, 0, rfl, hg, fun i t ht => ?_⟩
  rw [Nat.zero_add]
  exact hc _ _ ht

/-- Two rows of the call's own: names and numbers. -/
structure TR (w : World) (l : List Str) (is : List Nat) (oo : Option Addr) (n oc : Nat) (uo : Option Addr) (m uc : Nat) (wr : World) : Prop where
  bel : Below w.heap.size w wr
  hn : (ss l).length = n
  hm : (ints is).length = m
  out : wr.ownsRow w.heap.size 9 1 (.slice oo n oc) (ss l).length (ss l)
  use : wr.ownsRow w.heap.size 3 1 (.slice uo m uc) (ints is).length (ints is)
  dis : ∀ g, (Value.slice oo n oc).ownBlock = some g → (Value.slice uo m uc).ownBlock ≠ some g
section
variable {w wr w2 : World} {l : List Str} {is : List Nat} {oo uo ao : Option Addr} {n oc m uc n2 cap : Nat} {x : Str} {i : Nat}
theorem TR.size (h : TR w l is oo n oc uo m uc wr) : w.heap.size ≤ wr.heap.size := h.bel.size
theorem TR.oA (h : TR w l is oo n oc uo m uc wr) (o : Obj) : (wr.alloc o).ownsRow w.heap.size 9 1 (.slice oo n oc) (ss l).length (ss l) := h.out.alloc o
theorem TR.uA (h : TR w l is oo n oc uo m uc wr) (o : Obj) : (wr.alloc o).ownsRow w.heap.size 3 1 (.slice uo m uc) (ints is).length (ints is) := h.use.alloc o
theorem TR.sA (h : TR w l is oo n oc uo m uc wr) (o : Obj) : w.heap.size ≤ (wr.alloc o).heap.size := Nat.le_trans h.size (by simp)
theorem TR.rd (h : TR w l is oo n oc uo m uc wr) : Rd wr (.slice oo n oc) (ss l) := by
  have h1 := h.out
  rw [h.hn] at h1
  exact rd_of_own1 h1 h.hn
theorem TR.call (h : TR w l is oo n oc uo m uc wr) (hb : Below wr.heap.size wr w2) : TR w l is oo n oc uo m uc w2 :=
  ⟨h.bel.trans (hb.mono h.size), h.hn, h.hm, own_same h.out fun k hk => hb.block k (h.out.lt k hk).2, own_same h.use fun k hk => hb.block k (h.use.lt k hk).2, h.dis⟩
theorem TR.addO (h : TR w l is oo n oc uo m uc wr) {o : Obj} (hn2 : n2 = (ss l).length + 1) (hown : w2.ownsRow w.heap.size 9 1 (.slice ao n2 cap) n2 (ss l ++ [.string (ba x)])) (hg : (wr.alloc o).grownBy w2 (Value.slice oo n oc).ownBlock) (hf : (Value.slice ao n2 cap).ownBlock = (Value.slice oo n oc).ownBlock ∨ (Value.slice ao n2 cap).ownBlock = some (wr.alloc o).heap.size) :
    n2 = n + 1 ∧ TR w (l ++ [x]) is ao n2 cap uo m uc w2 := by
  have hl : (ss (l ++ [x])).length = n2 := by rw [hn2]; simp [ss]
  have hb := h.bel.trans ((bel_alloc wr o).mono h.size)
  refine ⟨by rw [hn2, h.hn], hb.grown hg (h.sA o) (fun k hk => (h.out.lt k hk).1), hl, h.hm, ?_, own_same (h.uA o) fun k hk => hg.block k ((h.uA o).lt k hk).2 (fun e => h.dis k e.symm hk), fun g hg1 hg2 => ?_⟩
  · rw [hl, show ss (l ++ [x]) = ss l ++ [.string (ba x)] by simp [ss]]; exact hown
  · rcases hf with hf | hf
    · exact h.dis g (hf.symm.trans hg1) hg2
    · have h1 := (h.use.lt g hg2).2
      rw [hg1] at hf
      simp at hf
      omega
theorem TR.addU (h : TR w l is oo n oc uo m uc wr) {o : Obj} (hn2 : n2 = (ints is).length + 1) (hown : w2.ownsRow w.heap.size 3 1 (.slice ao n2 cap) n2 (ints is ++ [.int .i64 (i : Int)])) (hg : (wr.alloc o).grownBy w2 (Value.slice uo m uc).ownBlock) (hf : (Value.slice ao n2 cap).ownBlock = (Value.slice uo m uc).ownBlock ∨ (Value.slice ao n2 cap).ownBlock = some (wr.alloc o).heap.size) :
    n2 = m + 1 ∧ TR w l (is ++ [i]) oo n oc ao n2 cap w2 := by
  have hl : (ints (is ++ [i])).length = n2 := by rw [hn2, ints_length, ints_length]; simp
  have hb := h.bel.trans ((bel_alloc wr o).mono h.size)
  refine ⟨by rw [hn2, h.hm], hb.grown hg (h.sA o) (fun k hk => (h.use.lt k hk).1), h.hn, hl, own_same (h.oA o) fun k hk => hg.block k ((h.oA o).lt k hk).2 (fun e => h.dis k hk e.symm), ?_, fun g hg1 hg2 => ?_⟩
  · rw [hl, ints_append]; exact hown
  · rcases hf with hf | hf
    · exact h.dis g hg1 (hf.symm.trans hg2)
    · have h1 := (h.out.lt g hg1).2
      rw [hg2] at hf
      simp at hf
      omega
/-- The first row stands; the second is made. -/
theorem TR.start (H : Ow 9 w.heap.size w wr (.slice oo n oc) (ss l)) (hn : (ss l).length = n) : TR w l [] oo n oc (some ⟨wr.heap.size, 0, none⟩) 0 0 (wr.alloc (.cells #[] 3)) := by
  refine ⟨H.bel.alloc H.size _, hn, rfl, H.own.alloc _, ((ow_empty 3 wr).start (Nat.le_refl _) H.bel H.size).own, fun g hg1 hg2 => ?_⟩
  have := (H.own.lt g hg1).2
  simp only [Value.ownBlock, Option.some.injEq] at hg2
  omega
end

/-- Rules whose conclusion is lacking. -/
def lkR (rs : List Gr) (l : List Str) : Nat := rs.countP fun r => decide (r.2 ∉ l)
theorem lkR_le (rs : List Gr) (l : List Str) : lkR rs l ≤ rs.length := List.countP_le_length
theorem lkR_add {rs : List Gr} {l : List Str} {r : Gr} (hr : r ∈ rs) (h : r.2 ∉ l) : lkR rs (l ++ [r.2]) + 1 ≤ lkR rs l := by
  unfold lkR
  have hmono : ∀ qs : List Gr, (qs.countP fun q => decide (q.2 ∉ l ++ [r.2])) ≤ qs.countP fun q => decide (q.2 ∉ l) := fun qs => List.countP_mono_left fun q _ hq => by
    simp at hq ⊢
    exact hq.1
  induction rs with
  | nil => cases hr
  | cons a rs ih =>
    rw [List.countP_cons, List.countP_cons]
    rcases List.mem_cons.1 hr with rfl | hr
    · have h1 : (decide (r.2 ∉ l ++ [r.2])) = false := by simp
      have h2 : (decide (r.2 ∉ l)) = true := by simp [h]
      rw [h1, h2]
      have := hmono rs
      simp only [if_true, Bool.false_eq_true, if_false]
      omega
    · have := ih hr
      have h3 : (if decide (a.2 ∉ l ++ [r.2]) = true then 1 else 0) ≤ (if decide (a.2 ∉ l) = true then 1 else 0 : Nat) := by
        by_cases e : a.2 ∈ l
        · simp [e]
        · split <;> simp [e]
      omega
/-- What forward chaining keeps. -/
structure CI (rs : List Gr) (s l : List Str) (is : List Nat) (k : Nat) : Prop where
  sub : ∀ x ∈ s, x ∈ l
  der : ∀ x ∈ l, DerS rs (fun x => x ∈ s) x
  sat : ∀ r ∈ rs.take k, subB r.1 l = true → r.2 ∈ l
  cnt : l.length + lkR rs l ≤ s.length + rs.length
  use : is.length + s.length = l.length
theorem CI.start (rs : List Gr) (s : List Str) : CI rs s s [] 0 := ⟨fun _ h => h, fun _ h => .base h, fun r h => (by simp at h), by have := lkR_le rs s; omega, by simp⟩
theorem CI.next {rs : List Gr} {s l : List Str} {is : List Nat} {k : Nat} {r : Gr} (h : CI rs s l is k) (hr : rs[k]? = some r) (hs : subB r.1 l = true → r.2 ∈ l) : CI rs s l is (k + 1) :=
  ⟨h.sub, h.der, fun q hq hp => by
    rw [take_snoc_get hr, List.mem_append, List.mem_singleton] at hq
    rcases hq with hq | rfl
    · exact h.sat q hq hp
    · exact hs hp, h.cnt, h.use⟩
theorem CI.fire {rs : List Gr} {s l : List Str} {is : List Nat} {k : Nat} {r : Gr} (h : CI rs s l is k) (hr : rs[k]? = some r) (hs : subB r.1 l = true) (hn : r.2 ∉ l) : CI rs s (l ++ [r.2]) (is ++ [k]) 0 ∧ l.length + 1 ≤ s.length + rs.length := by
  have hm := List.mem_of_getElem? hr
  have h1 := lkR_add hm hn
  have h2 := h.cnt
  have h3 := h.use
  refine ⟨⟨fun x hx => List.mem_append_left _ (h.sub x hx), fun x hx => ?_, fun q hq => (by simp at hq), by rw [List.length_append, List.length_singleton]; omega, by rw [List.length_append, List.length_append, List.length_singleton, List.length_singleton]; omega⟩, by omega⟩
  rcases List.mem_append.1 hx with hx | hx
  · exact h.der x hx
  · rw [List.mem_singleton.1 hx]
    exact .rule hm fun y hy => h.der y (subB_iff.1 hs y hy)
theorem CI.done {rs : List Gr} {s l : List Str} {is : List Nat} {k : Nat} (h : CI rs s l is k) (hk : rs.length ≤ k) (x : Str) : x ∈ l ↔ DerS rs (fun x => x ∈ s) x := by
  refine ⟨h.der x, fun hx => derS_least (C := fun x => x ∈ l) (fun r hr hp => h.sat r ?_ (subB_iff.2 hp)) h.sub hx⟩
  rw [List.take_of_length_le hk]; exact hr
def lenOf : Value → Nat
  | .slice _ n _ => n
  | _ => 0
theorem down_mul {A n k rn : Nat} (hk : k ≤ rn) (h : n + 1 ≤ A) : (A - (n + 1)) * (rn + 1) + rn < (A - n) * (rn + 1) + (rn - k) := by
  obtain ⟨d, rfl⟩ : ∃ d, A = n + 1 + d := ⟨A - (n + 1), by omega⟩
  rw [show n + 1 + d - (n + 1) = d by omega, show n + 1 + d - n = d + 1 by omega, Nat.succ_mul]
  omega
def ChnP (w : World) (rs : List Gr) (s : List Str) (e : Ending) (w' : World) : Prop :=
  ∃ (l : List Str) (is : List Nat) (oo : Option Addr) (n oc : Nat) (uo : Option Addr) (m uc : Nat), e = .returned (.tuple #[.slice oo n oc, .slice uo m uc]) ∧ TR w l is oo n oc uo m uc w' ∧ (∀ x, x ∈ l ↔ DerS rs (fun x => x ∈ s) x)

set_option maxRecDepth 100000 in
set_option maxHeartbeats 1600000 in
theorem rchn_any (ro : Option Addr) (rn rc : Nat) (rs : List Gr) (so : Option Addr) (sn sc : Nat) (s : List Str) (w : World) (hR : RuR w (.slice ro rn rc) rs) (hS : Rd w (.slice so sn sc) (ss s)) (hrn : rn ≤ 1000000) (hsn : sn ≤ 1000000) :
    Calls Try.prog 50 #[.slice ro rn rc, .slice so sn sc] w (ChnP w rs s) := by
  obtain ⟨hm, h4⟩ := hR.len
  obtain ⟨hs1, _, _, _⟩ := rds_open hS
  have HM := hid_of hm
  have HSL := hid_of hs1
  have HRU : Hid (∀ k l is oo n oc uo m uc wr, k < rn → TR w l is oo n oc uo m uc wr → ∃ g o a c bx r, ro = some ⟨g, o, none⟩ ∧ rs[k]? = some r ∧ bx = ba r.2 ∧ wr.cell? ⟨g, o + k * 2, none⟩ = some (.slice a r.1.length c) ∧ wr.cell? ⟨g, o + k * 2 + 1, none⟩ = some (.string bx) ∧ g < wr.heap.size ∧
      (∀ W, Below w.heap.size w W → W.cell? ⟨g, o + k * 2 + 1, none⟩ = some (.string bx)) ∧
      Hid (Calls Try.prog 25 #[.slice a r.1.length c, .slice oo n oc] wr fun e w' => e = .returned (.bool (subB r.1 l)) ∧ wr = w') ∧ Hid (Calls Try.prog 26 #[.slice oo n oc, .string bx] wr fun e w' => e = .returned (.bool (decide (r.2 ∈ l))) ∧ wr = w')) := hid_of (fun k l is oo n oc uo m uc wr hk ht => by
    obtain ⟨r, hr⟩ : ∃ r, rs[k]? = some r := ⟨_, List.getElem?_eq_getElem (by omega)⟩
    obtain ⟨g, o, a, c, e, c0, c1, rr⟩ := (hR.at ht.bel).get hr
    have hrr := ht.rd
    refine ⟨g, o, a, c, _, r, e, hr, rfl, c0, c1, World.block_lt_of_cell? _ _ c1, fun W hW => ?_, hid_of (rsub_any a _ c r.1 oo n oc l wr rr hrr), hid_of (rhas_any oo n oc l r.2 wr hrr)⟩
    obtain ⟨g', o', a', c', e', _, c1', _⟩ := (hR.at hW).get hr
    rw [e] at e'
    cases e'
    exact c1')
  have HS := hid_of hS
  clear hm hR hS hs1 h4
  go_enter Try.func50, Try.ntmps50
  go_wp2_with (at_builtin; (refine wpList_app strsE rfl (.tmp 9) (.tmp 10) rfl (v := .slice (some ⟨w.heap.size, 0, none⟩) 0 0) (l := []) rfl (ow_empty 9 w) (vx := .slice so sn sc) (m := ss s) rfl (HS.out.at (bel_alloc w _)) (by intro u hu; obtain ⟨y, _, rfl⟩ := List.mem_map.1 hu; rfl) (by have := HSL.out; simp [ss]; omega) (by have := HSL.out; simp [ss]; omega) ?_); intro ao1 n1 cap1 w1 e1 h5; have HN1 : Hid ((ss s).length = n1) := hid_of (by rw [e1]; simp); have HT0 := hid_of (TR.start (by simpa using h5) HN1.out); clear e1 h5)
  go_loopw [6, 7, 8] (fun ov uv iv wr => ∃ (l : List Str) (is : List Nat) (oo : Option Addr) (n oc : Nat) (uo : Option Addr) (m uc k : Nat), ov = .slice oo n oc ∧ uv = .slice uo m uc ∧ k ≤ rn ∧ iv = .int .i64 k ∧ Hid (TR w l is oo n oc uo m uc wr) ∧ Hid (CI rs s l is k)) (fun ov _ iv _ => (s.length + rs.length - lenOf ov) * (rn + 1) + (rn - (intOf iv).toNat))
  case atStart => exact ⟨s, [], ao1, n1, cap1, _, 0, 0, 0, rfl, rfl, Nat.zero_le _, rfl, HT0, hid_of (CI.start rs s)⟩
  case round =>
    obtain ⟨l, is, oo, n, oc, uo, m, uc, k, rfl, rfl, hk, rfl, ht, hc⟩ := hrel
    by_cases hlt : k < rn
    · have hd : decide (k < rn) = true := by simp; omega
      obtain ⟨g, o, a, c, bx, r, rfl, e1, ebx, c0, c1, hg, hW, HSB, HH⟩ := HRU.out k l is oo n oc uo m uc wr hlt ht.out
      obtain ⟨pl, hpl⟩ : ∃ pl, pl = r.1.length := ⟨_, rfl⟩
      obtain ⟨b1, hb1⟩ : ∃ b, b = subB r.1 l := ⟨_, rfl⟩
      obtain ⟨b2, hb2⟩ : ∃ b, b = decide (r.2 ∈ l) := ⟨_, rfl⟩
      rw [← hpl, ← hb1] at HSB
      rw [← hpl] at c0
      rw [← hb2] at HH
      have E1 := hid_of e1
      have HB1 := hid_of hb1
      have HB2 := hid_of hb2
      have HBX := hid_of ebx
      have HW := hid_of hW
      clear e1 hpl hb1 hb2 ebx hW
      cases b1
      · have HN := hid_of (hc.out.next E1.out (fun h => by rw [← HB1.out] at h; cases h))
        go_wp2_with (go_at_call 25; ((with_reducible refine (HSB.out).mono ?_); (rintro ee w' ⟨rfl, rfl⟩)))
        go_roundw
        case rel => exact ⟨l, is, oo, n, oc, uo, m, uc, k + 1, rfl, rfl, by omega, by go_num, ht, HN⟩
        case measure => simp [intOf, lenOf]; omega
      · cases b2
        · have HF := hid_of (hc.out.fire E1.out HB1.out.symm (of_decide_eq_false HB2.out.symm))
          have HLS : Hid ((ss l).length = n ∧ (ints is).length = m ∧ n + 1 ≤ s.length + rs.length ∧ m ≤ n ∧ n + 1 ≤ 2000000) := hid_of (by
            have h1 := ht.out.hn
            have h2 := ht.out.hm
            have h3 := HF.out.2
            have h4 := hc.out.use
            have h5 := HM.out
            have h6 := HSL.out
            have h7 : (ss l).length = l.length := by simp [ss]
            rw [ints_length] at h2
            refine ⟨h1, by rw [ints_length]; exact h2, ?_, ?_, ?_⟩ <;> omega)
          have HT1 : Hid (∀ ao2 n2 cap2 w2, n2 = (ss l).length + 1 → w2.ownsRow w.heap.size 9 1 (.slice ao2 n2 cap2) n2 (ss l ++ [.string bx]) → (wr.alloc (.cells #[.string bx] 9)).grownBy w2 (Value.slice oo n oc).ownBlock → ((Value.slice ao2 n2 cap2).ownBlock = (Value.slice oo n oc).ownBlock ∨ (Value.slice ao2 n2 cap2).ownBlock = some (wr.alloc (.cells #[.string bx] 9)).heap.size) → n2 = n + 1 ∧ TR w (l ++ [r.2]) is ao2 n2 cap2 uo m uc w2) := hid_of (by
            rw [HBX.out]
            exact fun ao2 n2 cap2 w2 => ht.out.addO)
          have HMS : Hid ((s.length + rs.length - (n + 1)) * (rn + 1) + rn < (s.length + rs.length - n) * (rn + 1) + (rn - k)) := hid_of (down_mul hk HLS.out.2.2.1)
          go_wp2_with (first
            | (go_at_call 25; ((with_reducible refine (HSB.out).mono ?_); (rintro ee w' ⟨rfl, rfl⟩)))
            | (go_at_call 26; ((with_reducible refine (HH.out).mono ?_); (rintro ee w' ⟨rfl, rfl⟩)))
            | (at_builtin; (refine wpList_app2 strsE rfl (.tmp 36) (.tmp 42) rfl (v := .slice oo n oc) (l := ss l) rfl (ht.out.oA _) (ht.out.sA _) (vx := .slice (some ⟨wr.heap.size, 0, none⟩) 1 1) (m := [.string bx]) rfl (rd_new rfl rfl (by simp)) (by intro u hu; rw [List.mem_singleton.1 hu]; rfl) (by have := HLS.out; simp only [List.length_singleton]; omega) (by have := HLS.out; simp only [List.length_singleton]; omega) ?_); intro ao2 n2 cap2 w2 e1 e2 e3 e4; have HT2 := hid_of (HT1.out ao2 n2 cap2 w2 e1 e2 e3 e4); clear e1 e2 e3 e4; have c1b := HW.out w2 HT2.out.2.bel)
            | (at_builtin; (refine wpList_app2 intsE rfl (.tmp 44) (.tmp 46) rfl (v := .slice uo m uc) (l := ints is) rfl (HT2.out.2.uA _) (HT2.out.2.sA _) (vx := .slice (some ⟨w2.heap.size, 0, none⟩) 1 1) (m := [.int .i64 (k : Int)]) rfl (rd_new rfl rfl (by simp)) (by intro u hu; rw [List.mem_singleton.1 hu]; rfl) (by have := HLS.out; simp only [List.length_singleton]; omega) (by have := HLS.out; simp only [List.length_singleton]; omega) ?_); intro ao3 n3 cap3 w3 e1 e2 e3 e4; have HT3 := hid_of (HT2.out.2.addU e1 e2 e3 e4); clear e1 e2 e3 e4))
          go_roundw
          case rel => exact ⟨l ++ [r.2], is ++ [k], ao2, n2, cap2, ao3, n3, cap3, 0, rfl, rfl, Nat.zero_le _, by go_num, hid_of HT3.out.2, hid_of HF.out.1⟩
          case measure =>
            have h1 := HMS.out
            rw [← HT2.out.1] at h1
            simp [intOf, lenOf]
            exact h1
        · have HN := hid_of (hc.out.next E1.out (fun _ => of_decide_eq_true HB2.out.symm))
          go_wp2_with (first
            | (go_at_call 25; ((with_reducible refine (HSB.out).mono ?_); (rintro ee w' ⟨rfl, rfl⟩)))
            | (go_at_call 26; ((with_reducible refine (HH.out).mono ?_); (rintro ee w' ⟨rfl, rfl⟩))))
          go_roundw
          case rel => exact ⟨l, is, oo, n, oc, uo, m, uc, k + 1, rfl, rfl, by omega, by go_num, ht, HN⟩
          case measure => simp [intOf, lenOf]; omega
    · have hd : decide (k < rn) = false := by simp; omega
      have HD := hid_of (hc.out.done (by have := HM.out; omega))
      go_wp2
      go_ret2
      exact ⟨l, is, oo, n, oc, uo, m, uc, rfl, ht.out, HD.out⟩
end Go.Proofs.Ytedohggbpmcehaa

/- Names and rules that came in, opened. Bounds on sizes alone. -/
namespace Go.Proofs.Ytedohggbpmcehaa
open Go.RowKit Go.ChangeShapes Go.WideShapes

set_option maxRecDepth 100000 in
theorem open_sl {H : Type} {enc : TypeId × Value → H} {w : World} {fuel : Nat} {v : Value} {x : DataW H × List MemPlace} (h : DataW.trod enc Try.prog w 0 (fun _ => true) true fuel 22 [v] = some x) :
    ∃ (a : Option Addr) (len cap : Nat) (l : List Str), v = .slice a len cap ∧ Rd w (.slice a len cap) (ss l) ∧ ∀ y ∈ l, y.length ≤ 9223372036854775807 := by
  rcases open_strings Try.underlying22 Try.underlying9 (by kernel_rfl) h with ⟨e, _⟩ | ⟨ad, len, cap, sl, e, _, hl, hm, hz, _, hcell, hwf⟩
  · simp only [List.cons.injEq, and_true] at e
    subst e
    exact ⟨none, 0, 0, [], rfl, ⟨none, 0, rfl, Nat.le_refl _, by omega, fun h => by simp [ss] at h⟩, by simp⟩
  · simp only [List.cons.injEq, and_true] at e
    subst e
    simp only [if_true] at hz
    unfold maxLen at hm
    have htl : (sl.take len).length = len := by rw [List.length_take]; omega
    refine ⟨some ad, len, cap, (sl.take len).map (·.data.toList), rfl, ⟨some ad, cap, by rw [ss_length, List.length_map, htl], by rw [ss_length, List.length_map, htl]; exact hl, by omega, fun h0 => ?_⟩, fun y hy => ?_⟩
    · rw [ss_length, List.length_map, htl] at h0
      have h6 := hcell 0 (by omega)
      rw [show ad.add 0 = ad by rfl] at h6
      have hx := spot_none h6
      refine ⟨ad.block, ad.off, by rw [← hx], World.block_lt_of_cell? w _ h6, fun j u hu => ?_⟩
      have hj : j < len := by
        have := (List.getElem?_eq_some_iff.1 hu).1
        rw [ss_length, List.length_map, htl] at this; exact this
      have h7 := hcell j (by omega)
      rw [hx, Addr.add_mid] at h7
      rw [h7, ← hu]
      have hjs : j < sl.length := by omega
      simp [ss, List.getElem?_take, hj, List.getElem?_eq_getElem hjs, List.getD, ba_of]
    · obtain ⟨s, hs, rfl⟩ := List.mem_map.1 hy
      have := hwf s (List.mem_of_mem_take hs)
      unfold maxLen at this
      have e : s.data.toList.length = s.size := Array.length_toList
      omega
/-- A rule as it came in. -/
structure RuX where
  v : Value
  s : ByteArray
  l : List Str
def RuX.cells (x : RuX) : List Value := [x.v, .string x.s]
theorem Try.cellsRule : Try.prog.cellsOf 41 = 2 := by kernel_rfl
theorem Try.cellsStrs : Try.prog.cellsOf 22 = 1 := by kernel_rfl
theorem Try.cellsStr : Try.prog.cellsOf 9 = 1 := by kernel_rfl
theorem plain_add2 (a o j : Nat) : (⟨a, o, none⟩ : Addr).add j = ⟨a, o + j, none⟩ := by unfold Addr.add; split <;> simp_all
set_option maxRecDepth 100000 in
theorem open_rule {H : Type} {enc : TypeId × Value → H} {w : World} {n : Nat} {cs : List Value} {y : DataW H × List MemPlace} (h : DataW.trod enc Try.prog w 0 (fun _ => true) true n 41 cs = some y) :
    ∃ x : RuX, cs = x.cells ∧ Rd w x.v (ss x.l) := by
  obtain ⟨y0, y1, m, _, hl, h0, h1⟩ := trod_struct2 Try.underlying41 h
  rw [Try.cellsRule] at hl
  match cs, hl with
  | [v0, v1], _ =>
    simp only [Try.cellsStrs, Try.cellsStr, List.drop_zero, List.drop_succ_cons, List.take_succ_cons, List.take_zero] at h0 h1
    obtain ⟨a, len, cap, l, rfl, h2, _⟩ := open_sl h0
    obtain ⟨s, e, _⟩ := DataW.trod_string Try.underlying9 h1
    simp only [List.cons.injEq, and_true] at e
    subst e
    exact ⟨⟨_, s, l⟩, rfl, h2⟩

set_option maxRecDepth 100000 in
theorem open_rules {H : Type} {enc : TypeId × Value → H} {w : World} {fuel len cap : Nat} {a : Option Addr} {x : DataW H × List MemPlace} (h : DataW.trod enc Try.prog w 0 (fun _ => true) true fuel 23 [.slice a len cap] = some x) :
    ∃ rs, RuR w (.slice a len cap) rs := by
  rcases Go.Deep.open_slice Try.underlying23 h with ⟨e, _⟩ | ⟨ad, len', cap', m, n, D, Pl, e, _, hlc, hcm, hm, _, hel⟩
  · simp only [List.cons.injEq, Value.slice.injEq, and_true] at e
    obtain ⟨rfl, rfl, rfl⟩ := e
    exact ⟨[], [], prd_nil w, rfl, fun i t r ht => by simp at ht⟩
  · simp only [List.cons.injEq, Value.slice.injEq, and_true] at e
    obtain ⟨rfl, rfl, rfl⟩ := e
    simp only [if_true] at hm
    subst hm
    unfold maxLen at hcm
    by_cases h0 : len = 0
    · subst h0
      exact ⟨[], [], ⟨_, _, rfl, hlc, by omega, fun h => by simp at h⟩, rfl, fun i t r ht => by simp at ht⟩
    · have hex : ∀ i, i < len → ∃ y : RuX, (∀ j, j < 2 → w.cell? ((ad.add (i * 2)).add j) = y.cells[j]?) ∧ Rd w y.v (ss y.l) := by
        intro i hi
        obtain ⟨cs', h1, h2⟩ := hel i (by omega)
        rw [Try.cellsRule] at h1
        obtain ⟨y, hy, r⟩ := open_rule h2
        obtain ⟨_, _, hc⟩ := World.cells?_some h1
        exact ⟨y, fun j hj => by rw [hc j hj, hy], r⟩
      have hsp : ad.spot = none := by
        obtain ⟨y, hc, _⟩ := hex 0 (by omega)
        have := hc 0 (by omega)
        simpa [Addr.add] using World.cell?_spot (w := w) (a := (ad.add (0 * 2)).add 0) this
      obtain ⟨b, o, sp⟩ := ad
      simp only at hsp
      subst hsp
      haveI : Inhabited RuX := ⟨⟨.slice none 0 0, ⟨#[]⟩, []⟩⟩
      obtain ⟨f, hf⟩ := Go.Deep.choose_lt hex
      have hget : ∀ (i : Nat) (q : Nat), (List.range len)[i]? = some q → i < len ∧ q = i := by
        intro i q hr
        obtain ⟨h1, h2⟩ := List.getElem?_eq_some_iff.1 hr
        simp at h1 h2
        exact ⟨h1, h2.symm⟩
      have hcell : ∀ i j, i < len → j < 2 → w.cell? ⟨b, o + i * 2 + j, none⟩ = (f i).cells[j]? := by
        intro i j hi hj
        have := (hf i hi).1 j hj
        rwa [plain_add2, plain_add2] at this
      have c00 := hcell 0 0 (by omega) (by omega)
      refine ⟨(List.range len).map fun i => ((f i).l, (f i).s.data.toList), (List.range len).map fun i => ((f i).v, .string (f i).s), ⟨_, _, by rw [List.length_map, List.length_range], by simpa using hlc, by omega, fun _ => ⟨b, o, rfl, World.block_lt_of_cell? w _ c00, fun i t ht => ?_⟩⟩, by simp, fun i t r ht hr => ?_⟩
      · rw [List.getElem?_map] at ht
        obtain ⟨q, hq, rfl⟩ := Option.map_eq_some_iff.1 ht
        obtain ⟨h1, rfl⟩ := hget i q hq
        exact ⟨hcell q 0 h1 (by omega), hcell q 1 h1 (by omega)⟩
      · rw [List.getElem?_map] at ht hr
        obtain ⟨q, hq, rfl⟩ := Option.map_eq_some_iff.1 ht
        obtain ⟨q', hq', rfl⟩ := Option.map_eq_some_iff.1 hr
        obtain ⟨h1, rfl⟩ := hget i q hq
        obtain ⟨_, rfl⟩ := hget _ q' hq'
        exact ⟨(hf _ h1).2, by rw [ba_of]⟩

theorem Try.cellsTwo : Try.prog.cellsOf 37 = 2 := by kernel_rfl
set_option maxRecDepth 100000 in
theorem open_two {H : Type} {enc : TypeId × Value → H} {w : World} {n : Nat} {cs : List Value} {y : DataW H × List MemPlace} (h : DataW.trod enc Try.prog w 0 (fun _ => true) true n 37 cs = some y) :
    ∃ (a0 : Option Addr) (n0 c0 : Nat) (l0 : List Str) (a1 : Option Addr) (n1 c1 : Nat) (l1 : List Str), cs = [.slice a0 n0 c0, .slice a1 n1 c1] ∧ Rd w (.slice a0 n0 c0) (ss l0) ∧ Rd w (.slice a1 n1 c1) (ss l1) := by
  obtain ⟨xs, m, _, _, hl, hx, hel⟩ := DataW.trod_array Try.underlying37 h
  rw [Try.cellsTwo] at hl
  match cs, hl with
  | [v0, v1], _ =>
    match xs, hx with
    | [x0, x1], _ =>
      have h0 := hel 0 (by omega)
      have h1 := hel 1 (by omega)
      simp only [Try.cellsStrs, Nat.zero_mul, Nat.one_mul, List.drop_zero, List.drop_succ_cons, List.take_succ_cons, List.take_zero, List.getElem?_cons_zero, List.getElem?_cons_succ] at h0 h1
      obtain ⟨a0, n0, c0, l0, rfl, r0, _⟩ := open_sl h0
      obtain ⟨a1, n1, c1, l1, rfl, r1, _⟩ := open_sl h1
      exact ⟨a0, n0, c0, l0, a1, n1, c1, l1, rfl, r0, r1⟩
theorem open_strz {H : Type} {enc : TypeId × Value → H} {w : World} {fuel len cap : Nat} {a : Option Addr} {x : DataW H × List MemPlace} (h : DataW.trod enc Try.prog w 0 (fun _ => true) true fuel 22 [.slice a len cap] = some x) :
    ∃ l : List Str, Rd w (.slice a len cap) (ss l) ∧ ∀ y ∈ l, y.length ≤ 9223372036854775807 := by
  obtain ⟨_, _, _, l, e, h1, h2⟩ := open_sl h
  simp only [Value.slice.injEq] at e
  obtain ⟨rfl, rfl, rfl⟩ := e
  exact ⟨l, h1, h2⟩
theorem okWide_arr {P : Program} {t e : TypeId} {n : Nat} {v : Value} {w : World} {r : Reach} {base : Nat} (ht : P.underlying t = some (.array n e)) (h : Value.okWide P w r base t v) : ∃ cs, v = .agg cs := by
  unfold Value.okWide at h
  rw [ht] at h
  obtain ⟨cs, h, _⟩ := h
  exact ⟨cs, h⟩
set_option maxRecDepth 100000 in
theorem open_twov {H : Type} {enc : TypeId × Value → H} {w : World} {base : Nat} {v : Value} {d : DataW H} {p : List MemPlace} (hv : Value.okWide Try.prog w .any base 37 v) (h : DataW.Trod enc Try.prog w 0 (fun _ => true) true 37 v d p) :
    ∃ (a0 : Option Addr) (n0 c0 : Nat) (l0 : List Str) (a1 : Option Addr) (n1 c1 : Nat) (l1 : List Str), v = .agg #[.slice a0 n0 c0, .slice a1 n1 c1] ∧ Rd w (.slice a0 n0 c0) (ss l0) ∧ Rd w (.slice a1 n1 c1) (ss l1) := by
  obtain ⟨cs, rfl⟩ := okWide_arr Try.underlying37 hv
  obtain ⟨fuel, hf⟩ := h
  obtain ⟨a0, n0, c0, l0, a1, n1, c1, l1, e, r0, r1⟩ := open_two hf
  have e2 : cs.toList = [.slice a0 n0 c0, .slice a1 n1 c1] := e
  have e3 : cs = #[.slice a0 n0 c0, .slice a1 n1 c1] := by rw [← Array.toArray_toList (xs := cs), e2]
  subst e3
  exact ⟨a0, n0, c0, l0, a1, n1, c1, l1, rfl, r0, r1⟩
end Go.Proofs.Ytedohggbpmcehaa

/- All closed sets, in lectic order. Plain mathematics. -/
namespace Go.Proofs.Ytedohggbpmcehaa
open Go.RowKit

/-- The subsets of i, .., i + k - 1 in lectic order. -/
def subs : Nat → Nat → List (List Nat)
  | 0, _ => [[]]
  | k + 1, i => subs k (i + 1) ++ (subs k (i + 1)).map (i :: ·)
theorem subs_ge : ∀ (k i : Nat) (s : List Nat), s ∈ subs k i → ∀ x ∈ s, i ≤ x ∧ x < i + k
  | 0, _, s, h => by simp [subs] at h; subst h; simp
  | k + 1, i, s, h => by
    rw [subs, List.mem_append] at h
    rcases h with h | h
    · exact fun x hx => by have := subs_ge k (i + 1) s h x hx; omega
    · obtain ⟨t, ht, rfl⟩ := List.mem_map.1 h
      intro x hx
      rcases List.mem_cons.1 hx with rfl | hx
      · omega
      · have := subs_ge k (i + 1) t ht x hx; omega
/-- Is a set closed? -/
def cldB (R : List Hrl) (s : List Nat) : Bool := (List.range R.length).all fun i => !((prem R i).all fun x => decide (x ∈ s)) || (conc R i).all fun x => decide (x ∈ s)
theorem cldB_iff {R : List Hrl} {s : List Nat} : cldB R s = true ↔ Cld (On R (fun _ => 0)) (fun x => x ∈ s) := by
  unfold cldB Cld
  simp only [List.all_eq_true, List.mem_range, Bool.or_eq_true, Bool.not_eq_true', List.all_eq_false, decide_eq_true_eq]
  constructor
  · rintro h r ⟨i, hi, _⟩ hp x hx
    have hl := (List.getElem?_eq_some_iff.1 hi).1
    rcases h i hl with ⟨y, hy, hy2⟩ | h
    · rw [prem_of hi] at hy; exact absurd (hp y hy) (by simpa using hy2)
    · rw [conc_of hi] at h; exact h x hx
  · intro h i hi
    have hR : R[i]? = some R[i] := List.getElem?_eq_getElem hi
    by_cases hp : ∀ y ∈ prem R i, y ∈ s
    · right
      intro x hx
      rw [conc_of hR] at hx
      exact h R[i] ⟨i, hR, rfl⟩ (fun y hy => hp y (by rw [prem_of hR]; exact hy)) x hx
    · left
      apply Classical.byContradiction
      intro hc
      exact hp fun y hy => Classical.byContradiction fun h2 => hc ⟨y, hy, by simpa using h2⟩
/-- The closed sets that agree with T below i. -/
def VV (R : List Hrl) (n : Nat) (T : List Nat) (i : Nat) : List (List Nat) := ((subs (n - i) i).map (mems T i ++ ·)).filter (cldB R)
theorem mems_all {T : List Nat} {n : Nat} (h : ∀ x ∈ T, x < n) (x : Nat) : x ∈ mems T n ↔ x ∈ T := by
  rw [mem_mems]
  exact ⟨fun h => h.2, fun hx => ⟨h x hx, hx⟩⟩
theorem cldB_congr {R : List Hrl} {s t : List Nat} (h : ∀ x, x ∈ s ↔ x ∈ t) : cldB R s = cldB R t := by
  rw [Bool.eq_iff_iff, cldB_iff, cldB_iff]
  constructor
  · intro hc r hr hp x hx; exact (h x).1 (hc r hr (fun y hy => (h y).2 (hp y hy)) x hx)
  · intro hc r hr hp x hx; exact (h x).2 (hc r hr (fun y hy => (h y).1 (hp y hy)) x hx)
theorem vv_end {R : List Hrl} {n : Nat} {T : List Nat} (hT : ∀ x ∈ T, x < n) (hc : cldB R T = true) : VV R n T n = [mems T n] := by
  unfold VV
  rw [Nat.sub_self]
  simp only [subs, List.map_cons, List.map_nil, List.append_nil]
  rw [List.filter_cons, cldB_congr (mems_all hT), hc]
  rfl
theorem vv_split (R : List Hrl) {n i : Nat} (T : List Nat) (hi : i < n) : VV R n T i = ((subs (n - (i + 1)) (i + 1)).map (mems T i ++ ·)).filter (cldB R) ++ ((subs (n - (i + 1)) (i + 1)).map ((mems T i ++ [i]) ++ ·)).filter (cldB R) := by
  unfold VV
  rw [show n - i = (n - (i + 1)) + 1 by omega, subs, List.map_append, List.filter_append, List.map_map]
  congr 2
  apply List.map_congr_left
  intro s _
  simp
/-- Whatever is closed and has what T has below f has all of T. -/
def Gen (R : List Hrl) (f : Nat) (T : List Nat) : Prop := ∀ C : List Nat, cldB R C = true → (∀ x, x < f → x ∈ T → x ∈ C) → ∀ x ∈ T, x ∈ C
theorem Gen.mono {R : List Hrl} {f i : Nat} {T : List Nat} (h : Gen R f T) (hi : f ≤ i) : Gen R i T := fun C hc hx => h C hc fun x hf hT => hx x (by omega) hT
theorem filter_none {R : List Hrl} {L : List (List Nat)} (h : ∀ s ∈ L, cldB R s = false) : L.filter (cldB R) = [] := by
  rw [List.filter_eq_nil_iff]
  exact fun s hs => by rw [h s hs]; simp
theorem vv_in {R : List Hrl} {n i : Nat} {T : List Nat} (hi : i < n) (hg : Gen R i T) (hiT : i ∈ T) : VV R n T i = VV R n T (i + 1) := by
  rw [vv_split R T hi, filter_none, List.nil_append]
  · unfold VV; rw [mems_succ, if_pos hiT]
  · intro s hs
    obtain ⟨t, ht, rfl⟩ := List.mem_map.1 hs
    cases hc : cldB R (mems T i ++ t) with
    | false => rfl
    | true =>
      have h1 := hg _ hc (fun x hx hT => List.mem_append_left _ (mem_mems.2 ⟨hx, hT⟩)) i hiT
      rcases List.mem_append.1 h1 with h1 | h1
      · have := (mem_mems.1 h1).1; omega
      · have := subs_ge _ _ t ht i h1; omega
theorem vv_out {R : List Hrl} {n i : Nat} {T T' : List Nat} (hi : i < n) (hiT : i ∉ T) (h1 : i ∈ T') (h2 : ∀ x, x < i → (x ∈ T' ↔ x ∈ T)) : VV R n T i = VV R n T (i + 1) ++ VV R n T' (i + 1) := by
  rw [vv_split R T hi]
  congr 1
  · unfold VV; rw [mems_succ, if_neg hiT, List.append_nil]
  · unfold VV
    rw [mems_succ, if_pos h1]
    have : mems T i = mems T' i := by
      unfold mems
      apply List.filter_congr
      intro x hx
      have hx2 : x < i := by simpa using hx
      rw [Bool.eq_iff_iff, decide_eq_true_eq, decide_eq_true_eq]
      exact (h2 x hx2).symm
    rw [this]
theorem vv_bad {R : List Hrl} {n i y : Nat} {T : List Nat} (hi : i < n) (hiT : i ∉ T) (hg : Gen R i T) (hy : y < i) (hyT : y ∉ T) (hd : Der (On R (fun _ => 0)) (fun x => x ∈ T ∨ x ∈ [i]) y) : VV R n T i = VV R n T (i + 1) := by
  rw [vv_split R T hi]
  have e : ((subs (n - (i + 1)) (i + 1)).map ((mems T i ++ [i]) ++ ·)).filter (cldB R) = [] := by
    apply filter_none
    intro s hs
    obtain ⟨t, ht, rfl⟩ := List.mem_map.1 hs
    cases hc : cldB R ((mems T i ++ [i]) ++ t) with
    | false => rfl
    | true =>
      have h1 := hg _ hc (fun x hx hT => List.mem_append_left _ (List.mem_append_left _ (mem_mems.2 ⟨hx, hT⟩)))
      have h2 := der_least (C := fun x => x ∈ (mems T i ++ [i]) ++ t) (cldB_iff.1 hc) (fun x hx => by
        rcases hx with hx | hx
        · exact h1 x hx
        · exact List.mem_append_left _ (List.mem_append_right _ hx)) hd
      rcases List.mem_append.1 h2 with h2 | h2
      · rcases List.mem_append.1 h2 with h2 | h2
        · exact absurd (mem_mems.1 h2).2 hyT
        · rw [List.mem_singleton.1 h2] at hy; omega
      · have := subs_ge _ _ t ht y h2; omega
  rw [e, List.append_nil]
  unfold VV; rw [mems_succ, if_neg hiT, List.append_nil]
/-- The set behind a further name is generated, too. -/
theorem gen_next {R : List Hrl} {i : Nat} {T T' : List Nat} (hg : Gen R i T) (h : ∀ x, x ∈ T' ↔ Der (On R (fun _ => 0)) (fun x => x ∈ T ∨ x ∈ [i]) x) : Gen R (i + 1) T' := fun C hc hx x hxT => by
  have hT : ∀ y ∈ T, y ∈ C := hg C hc fun y hy hyT => hx y (by omega) ((h y).2 (.base (.inl hyT)))
  have hi : i ∈ C := hx i (by omega) ((h i).2 (.base (.inr (by simp))))
  exact der_least (C := fun x => x ∈ C) (cldB_iff.1 hc) (fun y hy => by
    rcases hy with hy | hy
    · exact hT y hy
    · rw [List.mem_singleton.1 hy]; exact hi) ((h x).1 hxT)
theorem cld_of {R : List Hrl} {S0 : Nat → Prop} {T : List Nat} (h : ∀ x, x ∈ T ↔ Der (On R (fun _ => 0)) S0 x) : cldB R T = true := by
  rw [cldB_iff]
  intro r hr hp x hx
  exact (h x).2 (der_closed _ _ r hr (fun y hy => (h y).1 (hp y hy)) x hx)
/-- A visit for each set, until it says no. -/
def prc (ok : List (List Nat) → Bool) : List (List Nat) → List (List Nat) → List (List Nat) × Bool
  | d, [] => (d, true)
  | d, x :: l => if ok (d ++ [x]) = true then prc ok (d ++ [x]) l else (d ++ [x], false)
theorem prc_yes (ok : List (List Nat) → Bool) : ∀ (A B d : List (List Nat)), (prc ok d A).2 = true → prc ok d (A ++ B) = prc ok (prc ok d A).1 B
  | [], B, d, _ => by simp [prc]
  | x :: A, B, d, h => by
    cases h1 : ok (d ++ [x]) with
    | true =>
      simp only [List.cons_append, prc, h1, if_true] at h ⊢
      exact prc_yes ok A B _ h
    | false => simp [prc, h1] at h
theorem prc_no (ok : List (List Nat) → Bool) : ∀ (A B d : List (List Nat)), (prc ok d A).2 = false → prc ok d (A ++ B) = prc ok d A
  | [], B, d, h => by simp [prc] at h
  | x :: A, B, d, h => by
    cases h1 : ok (d ++ [x]) with
    | true =>
      simp only [List.cons_append, prc, h1, if_true] at h ⊢
      exact prc_no ok A B _ h
    | false => simp [prc, h1]
end Go.Proofs.Ytedohggbpmcehaa

/- walk: the search for all closed sets, over whatever visit. Bounds on sizes alone. -/
namespace Go.Proofs.Ytedohggbpmcehaa
open Go.RowKit

theorem three_new0 (w : World) (a b c : Obj) : Below w.heap.size w (((w.alloc a).alloc b).alloc c) ∧ ((((w.alloc a).alloc b).alloc c)).heap[w.heap.size]? = some a ∧ ((((w.alloc a).alloc b).alloc c)).heap[w.heap.size + 1]? = some b ∧ ((((w.alloc a).alloc b).alloc c)).heap[w.heap.size + 1 + 1]? = some c := by
  have z1 : (w.alloc a).heap.size = w.heap.size + 1 := by simp
  have z2 : ((w.alloc a).alloc b).heap.size = w.heap.size + 1 + 1 := by simp
  have B1 := bel_alloc w a
  have B2 := bel_alloc (w.alloc a) b
  have B3 := bel_alloc ((w.alloc a).alloc b) c
  have n1 := heap_alloc_new w a
  have n2 := heap_alloc_new (w.alloc a) b
  have n3 := heap_alloc_new ((w.alloc a).alloc b) c
  rw [z1] at n2
  rw [z2] at n3
  refine ⟨((B1.trans (B2.mono (by omega))).trans (B3.mono (by omega))), ?_, ?_, n3⟩
  · exact ((B3.block _ (by omega)).trans (B2.block _ (by omega))).trans n1
  · exact (B3.block _ (by omega)).trans n2
theorem vv_ext {R : List Hrl} {n : Nat} {T : List Nat} {a : Nat} (ha : a ≤ n) : ∀ k i, i + k = a → Gen R i T → ∃ rest, VV R n T i = VV R n T a ++ rest
  | 0, i, hi, _ => ⟨[], by rw [show i = a by omega]; simp⟩
  | k + 1, i, hi, hg => by
    obtain ⟨rest, h⟩ := vv_ext ha k (i + 1) (by omega) (hg.mono (by omega))
    by_cases hiT : i ∈ T
    · exact ⟨rest, by rw [vv_in (by omega) hg hiT, h]⟩
    · rw [vv_split R T (show i < n by omega)]
      have e : ((subs (n - (i + 1)) (i + 1)).map (mems T i ++ ·)).filter (cldB R) = VV R n T (i + 1) := by
        unfold VV; rw [mems_succ, if_neg hiT, List.append_nil]
      rw [e, h]
      exact ⟨_, by rw [List.append_assoc]⟩
/-- What comes behind, when a is added. -/
def GG (R : List Hrl) (n : Nat) (T : List Nat) (a : Nat) : List (List Nat) := ((subs (n - (a + 1)) (a + 1)).map ((mems T a ++ [a]) ++ ·)).filter (cldB R)
theorem vv_gg {R : List Hrl} {n a : Nat} {T : List Nat} (ha : a < n) (haT : a ∉ T) : VV R n T a = VV R n T (a + 1) ++ GG R n T a := by
  rw [vv_split R T ha]
  congr 1
  unfold VV; rw [mems_succ, if_neg haT, List.append_nil]
theorem gg_good {R : List Hrl} {n a : Nat} {T T' : List Nat} (ha : a < n) (haT : a ∉ T) (h1 : a ∈ T') (h2 : ∀ x, x < a → (x ∈ T' ↔ x ∈ T)) : VV R n T' (a + 1) = GG R n T a := by
  have e1 := vv_gg (R := R) ha haT
  rw [vv_out ha haT h1 h2] at e1
  exact List.append_cancel_left e1
theorem gg_bad {R : List Hrl} {n a y : Nat} {T : List Nat} (ha : a < n) (haT : a ∉ T) (hg : Gen R a T) (hy : y < a) (hyT : y ∉ T) (hd : Der (On R (fun _ => 0)) (fun x => x ∈ T ∨ x ∈ [a]) y) : GG R n T a = [] := by
  have e1 := vv_gg (R := R) ha haT
  rw [vv_bad ha haT hg hy hyT hd] at e1
  exact (List.append_right_eq_self.1 e1.symm)
theorem prc_len (ok : List (List Nat) → Bool) : ∀ (L d : List (List Nat)), (prc ok d L).2 = true → (prc ok d L).1 = d ++ L
  | [], d, _ => by simp [prc]
  | x :: L, d, h => by
    cases h1 : ok (d ++ [x]) with
    | true =>
      simp only [prc, h1, if_true] at h ⊢
      rw [prc_len ok L _ h]; simp
    | false => simp [prc, h1] at h

/-- Owned by the chase or by the visit. -/
def orS (U JS : Nat → Prop) : Nat → Prop := fun b => U b ∨ JS b
theorem chg_l {U U' JS : Nat → Prop} {w w' : World} (h : Chg U U' w w') : Chg (orS U JS) (orS U' JS) w w' :=
  ⟨⟨h.kept.os, h.kept.tape, h.kept.output, h.kept.size, fun k hk hs => h.kept.block k hk (fun h2 => hs (.inl h2))⟩, fun k hk => by
    rcases hk with hk | hk
    · rcases h.sub k hk with h2 | h2
      · exact .inl (.inl h2)
      · exact .inr h2
    · exact .inl (.inr hk)⟩
theorem chg_r {U JS JS' : Nat → Prop} {w w' : World} (h : Chg JS JS' w w') : Chg (orS U JS) (orS U JS') w w' :=
  ⟨⟨h.kept.os, h.kept.tape, h.kept.output, h.kept.size, fun k hk hs => h.kept.block k hk (fun h2 => hs (.inr h2))⟩, fun k hk => by
    rcases hk with hk | hk
    · exact .inl (.inl hk)
    · rcases h.sub k hk with h2 | h2
      · exact .inl (.inr h2)
      · exact .inr h2⟩
/-- What the walk stands on: a closed set T, all of it counted; d: the sets that have been visited. -/
structure St (c n : Nat) (R : List Hrl) (vb cb bb gv : Nat) (lbs : Array Value) (J : List (List Nat) → (Nat → Prop) → World → Prop) (d : List (List Nat)) (T : List Nat) (V : CV) (U JS : Nat → Prop) (w : World) : Prop where
  ch : CH w c n R (lackR R (fun _ => 0) (T.take T.length)) (memB T) T T.length V U
  j : J d JS w
  ap : ∀ b, JS b → ¬ U b ∧ b < w.heap.size
  ab : ∀ (i : Nat) (v : Value), V.ar[i]? = some v → ∀ g, v.ownBlock = some g → ¬ JS g
  hv : w.heap[vb]? = some (.cells #[.func (.func gv) #[] lbs] 92 (0, 0))
  hc : w.heap[cb]? = some (.cells #[.pointer (some ⟨c, 0, none⟩)] 76 (0, 0))
  hb : w.heap[bb]? = some (.cells #[.func (.func 72) #[] #[.pointer (some ⟨vb, 0, none⟩), .pointer (some ⟨cb, 0, none⟩), .pointer (some ⟨bb, 0, none⟩)]] 103 (0, 0))
  nu : ∀ b, b = vb ∨ b = cb ∨ b = bb → ¬ U b ∧ ¬ JS b
theorem chg_far {A B : Nat → Prop} {w wr : World} {g o : Nat} {v : Value} (h : Chg A B w wr) (hg : w.heap.size ≤ g) : Chg A B w (wr.setCell ⟨g, o, none⟩ v) :=
  ⟨⟨h.kept.os, h.kept.tape, h.kept.output, by simpa using h.kept.size, fun k hk hs => by rw [set_other (by omega)]; exact h.kept.block k hk hs⟩, h.sub⟩
section
variable {c n : Nat} {R : List Hrl} {vb cb bb gv : Nat} {lbs : Array Value} {J : List (List Nat) → (Nat → Prop) → World → Prop} {d d' : List (List Nat)} {T T' : List Nat} {V V' : CV} {U U' JS JS' : Nat → Prop} {w w' : World}
/-- The visit's own change. -/
theorem St.visit (h : St c n R vb cb bb gv lbs J d T V U JS w) (hc : Chg JS JS' w w') (hj : J d' JS' w') (hs : ∀ b, JS' b → b < w'.heap.size) : St c n R vb cb bb gv lbs J d' T V U JS' w' := by
  have hn : ∀ b, ¬ JS b → b < w.heap.size → ¬ JS' b := fun b h1 h2 h3 => by
    rcases hc.sub b h3 with h4 | h4
    · exact h1 h4
    · omega
  have hl := fun b hb => h.nu b hb
  refine ⟨h.ch.chg hc (fun g hg h2 => (h.ap g h2).1 hg) (fun i v hv g hg => h.ab i v hv g hg), hj, fun b hb => ⟨fun hU => ?_, hs b hb⟩, fun i v hv g hg => hn g (h.ab i v hv g hg) ((h.ch.ai i v hv).2 g hg).1, hc.blk h.hv (hl vb (.inl rfl)).2, hc.blk h.hc (hl cb (.inr (.inl rfl))).2, hc.blk h.hb (hl bb (.inr (.inr rfl))).2, fun b hb => ⟨(h.nu b hb).1, hn b (h.nu b hb).2 ?_⟩⟩
  · rcases hc.sub b hb with h4 | h4
    · exact (h.ap b h4).1 hU
    · have := h.ch.sz b hU; omega
  · rcases hb with rfl | rfl | rfl
    · exact lt_of_block h.hv
    · exact lt_of_block h.hc
    · exact lt_of_block h.hb
/-- The chase's own change. -/
theorem St.move (h : St c n R vb cb bb gv lbs J d T V U JS w) (hJ : ∀ d JS w w', J d JS w → (∀ b, JS b → w'.heap[b]? = w.heap[b]?) → w.heap.size ≤ w'.heap.size → J d JS w') (hc : Chg U U' w w')
    (hch : CH w' c n R (lackR R (fun _ => 0) (T'.take T'.length)) (memB T') T' T'.length V' U') (hav : V'.ar = V.ar) : St c n R vb cb bb gv lbs J d T' V' U' JS w' := by
  have hn : ∀ b, ¬ U b → b < w.heap.size → ¬ U' b := fun b h1 h2 h3 => by
    rcases hc.sub b h3 with h4 | h4
    · exact h1 h4
    · omega
  refine ⟨hch, hJ d JS w w' h.j (fun b hb => hc.kept.block b (h.ap b hb).2 (h.ap b hb).1) hc.kept.size, fun b hb => ⟨hn b (h.ap b hb).1 (h.ap b hb).2, Nat.lt_of_lt_of_le (h.ap b hb).2 hc.kept.size⟩, by rw [hav]; exact h.ab, hc.blk h.hv (h.nu vb (.inl rfl)).1, hc.blk h.hc (h.nu cb (.inr (.inl rfl))).1, hc.blk h.hb (h.nu bb (.inr (.inr rfl))).1, fun b hb => ⟨hn b (h.nu b hb).1 ?_, (h.nu b hb).2⟩⟩
  rcases hb with rfl | rfl | rfl
  · exact lt_of_block h.hv
  · exact lt_of_block h.hc
  · exact lt_of_block h.hb
/-- What happens elsewhere. -/
theorem St.far (h : St c n R vb cb bb gv lbs J d T V U JS w) (hJ : ∀ d JS w w', J d JS w → (∀ b, JS b → w'.heap[b]? = w.heap[b]?) → w.heap.size ≤ w'.heap.size → J d JS w') {g o : Nat} {v : Value} (h1 : ¬ U g) (h2 : ¬ JS g) (h3 : g ≠ vb ∧ g ≠ cb ∧ g ≠ bb) (h4 : ∀ (i : Nat) (v : Value), V.ar[i]? = some v → ∀ b, v.ownBlock = some b → b ≠ g) : St c n R vb cb bb gv lbs J d T V U JS (w.setCell ⟨g, o, none⟩ v) := by
  have hs : ∀ b, b ≠ g → (w.setCell ⟨g, o, none⟩ v).heap[b]? = w.heap[b]? := fun b hb => set_other hb
  refine ⟨h.ch.chg (chg_set (S := fun b => b = g) (b := g) rfl) (fun b hb e => h1 (e ▸ hb)) h4, hJ d JS w _ h.j (fun b hb => hs b (fun e => h2 (e ▸ hb))) (by simp), fun b hb => ⟨(h.ap b hb).1, by have := (h.ap b hb).2; simpa using this⟩, h.ab, (hs vb h3.1.symm).trans h.hv, (hs cb h3.2.1.symm).trans h.hc, (hs bb h3.2.2.symm).trans h.hb, h.nu⟩
theorem St.below (h : St c n R vb cb bb gv lbs J d T V U JS w) (hJ : ∀ d JS w w', J d JS w → (∀ b, JS b → w'.heap[b]? = w.heap[b]?) → w.heap.size ≤ w'.heap.size → J d JS w') (hb : Below w.heap.size w w') : St c n R vb cb bb gv lbs J d T V U JS w' :=
  h.move hJ (Chg.ofBelow hb) (h.ch.at hb) rfl
end
theorem sat_of {R : List Hrl} {T : List Nat} (h : cldB R T = true) : Sat R (fun _ => 0) T T.length := fun i hi ho hp x hx => by
  rw [List.take_length] at hp
  have hR : R[i]? = some R[i] := List.getElem?_eq_getElem hi
  rw [prem_of hR] at hp
  rw [conc_of hR] at hx
  exact cldB_iff.1 h R[i] ⟨i, hR, ho⟩ hp x hx
end Go.Proofs.Ytedohggbpmcehaa

/- walk's closure below. Bounds on sizes alone. -/
namespace Go.Proofs.Ytedohggbpmcehaa
open Go.RowKit

section
variable (c n : Nat) (R : List Hrl) (vb cb bb gv : Nat) (lbs : Array Value) (J : List (List Nat) → (Nat → Prop) → World → Prop) (ok : List (List Nat) → Bool)
/-- What a search from a set leaves. -/
def BelP (d : List (List Nat)) (T : List Nat) (f : Nat) (V : CV) (U JS : Nat → Prop) (w : World) (e : Ending) (w' : World) : Prop :=
  e = .returned (.bool (prc ok d (VV R n T f)).2) ∧ ∃ V' U' JS', Chg (orS U JS) (orS U' JS') w w' ∧ J (prc ok d (VV R n T f)).1 JS' w' ∧ V'.ar = V.ar ∧ ((prc ok d (VV R n T f)).2 = true → St c n R vb cb bb gv lbs J (prc ok d (VV R n T f)).1 T V' U' JS' w')
/-- A round of the search: the names from j on are done. -/
def BlI (d : List (List Nat)) (T : List Nat) (V : CV) (U JS : Nat → Prop) (w : World) (gs sc j : Nat) (wr : World) : Prop :=
  ∃ V' U' JS' x, St c n R vb cb bb gv lbs J (prc ok d (VV R n T j)).1 T V' U' JS' wr ∧ V'.ar = V.ar ∧ (prc ok d (VV R n T j)).2 = true ∧ wr.ownsRow 0 3 1 (.slice (some ⟨gs, 0, none⟩) 1 sc) 1 [.int .i64 x] ∧ ¬ U' gs ∧ ¬ JS' gs ∧ Chg (orS U JS) (orS U' JS') w wr
end

/-- append of nothing onto a row of one. -/
theorem wpList_nil {ops : Array Oper} {rest : List Oper} {o : Oper} {a : Act} {w : World} {Q : Exit → Act → World → Prop} (hgd : o.guard = none) (s x : Operand)
    (ho : o.op = .call { callee := .builtin .append, args := #[s, x], argTypes := #[56, 56] })
    (v : Value) (xs : List Value) (hv : a.eval s = v) (hown : w.ownsRow 0 3 1 v 1 xs) (hx : a.eval x = .slice none 0 0)
    (h : ∀ (gs sc : Nat) (w' : World), w'.ownsRow 0 3 1 (.slice (some ⟨gs, 0, none⟩) 1 sc) 1 xs → w.grownBy w' v.ownBlock → (some gs = v.ownBlock ∨ gs = w.heap.size) → wpList Try.prog ops Q rest (a.put o.dst (.slice (some ⟨gs, 0, none⟩) 1 sc)) w') :
    wpList Try.prog ops Q (o :: rest) a w := by
  obtain ⟨i0, hi, hz0, hz1, hz2⟩ := info_parts intsE.info
  refine wpList_append_src _ hgd s x _ _ ho 0 3 i0 (.int .i64 0) 1 8 Try.underlying56 hi hz0 hz1 hz2 rfl (by decide) v 1 xs hv hown _ 0 [] hx (Src.ofNil _ Try.underlying56 0) (by unfold maxLen; omega) (by omega) (Nat.zero_le _) ?_
  intro v2 w2 hown2 hg _ hf
  rw [List.append_nil] at hown2
  rcases hown2.2 with ⟨_, h5⟩ | ⟨gs, sc, cur, rfl, h6, h7, h8⟩
  · omega
  · refine h gs sc w2 ⟨hown2.1, .inr ⟨gs, sc, cur, rfl, h6, h7, h8⟩⟩ hg ?_
    rcases hf with hf | hf
    · exact .inl hf
    · simp only [Value.ownBlock, Option.some.injEq] at hf; exact .inr hf
theorem own_lit (w : World) (x : Int) : (w.alloc (.cells #[.int .i64 x] 3)).ownsRow 0 3 1 (.slice (some ⟨w.heap.size, 0, none⟩) 1 1) 1 [.int .i64 x] :=
  ⟨rfl, .inr ⟨w.heap.size, 1, #[.int .i64 x], rfl, Nat.zero_le _, heap_alloc_new w _, Nat.le_refl _, by unfold maxLen; omega, rfl, rfl⟩⟩

section
variable {c n : Nat} {R : List Hrl} {vb cb bb gv : Nat} {lbs : Array Value} {J : List (List Nat) → (Nat → Prop) → World → Prop} {ok : List (List Nat) → Bool} {d : List (List Nat)} {T : List Nat} {V : CV} {U JS : Nat → Prop} {w wr : World} {gs sc a f : Nat}
/-- A name that is there. -/
theorem BlI.in (h : BlI c n R vb cb bb gv lbs J ok d T V U JS w gs sc (a + 1) wr) (ha : a < n) (hg : Gen R a T) (haT : a ∈ T) : BlI c n R vb cb bb gv lbs J ok d T V U JS w gs sc a wr := by
  unfold BlI
  rw [vv_in ha hg haT]
  exact h
/-- What grow is told, and what it leaves: a name that can be added. -/
theorem BlI.good (hn : n ≤ 1000000) (hJ : ∀ d JS w w', J d JS w → (∀ b, JS b → w'.heap[b]? = w.heap[b]?) → w.heap.size ≤ w'.heap.size → J d JS w') (hw : w.heap.size ≤ gs) (hbx : vb < w.heap.size ∧ cb < w.heap.size ∧ bb < w.heap.size) (har : ∀ (i : Nat) (v : Value), V.ar[i]? = some v → ∀ b, v.ownBlock = some b → b < w.heap.size)
    (h : BlI c n R vb cb bb gv lbs J ok d T V U JS w gs sc (a + 1) wr) (hcl : cldB R T = true) (ha : a < n) (haT : a ∉ T) (hg : Gen R a T) :
    wr.frozen? ⟨gs, 0, none⟩ = false ∧ (∃ x, wr.cell? ⟨gs, 0, none⟩ = some x) ∧ Calls Try.prog 71 #[.pointer (some ⟨c, 0, none⟩), .slice (some ⟨gs, 0, none⟩) 1 sc, .int .i64 a] (wr.setCell ⟨gs, 0, none⟩ (.int .i64 (a : Int))) fun e w3 =>
      ∃ T' k' V2 U2 JS' ok2, e = .returned (.bool ok2) ∧ CH w3 c n R (lackR R (fun _ => 0) (T'.take k')) (memB T') T' k' V2 U2 ∧ V2.ar = V.ar ∧ (∃ X, T' = T ++ X) ∧ T.length ≤ k' ∧ k' ≤ T'.length ∧ w3.ownsRow 0 3 1 (.slice (some ⟨gs, 0, none⟩) 1 sc) 1 [.int .i64 (a : Int)] ∧ ¬ U2 gs ∧ ¬ JS' gs ∧ Chg (orS U JS) (orS U2 JS') w w3 ∧
        (∀ w4 V4 U4 T4, Chg U2 U4 w3 w4 → V4.ar = V.ar → CH w4 c n R (lackR R (fun _ => 0) (T4.take T4.length)) (memB T4) T4 T4.length V4 U4 → St c n R vb cb bb gv lbs J (prc ok d (VV R n T (a + 1))).1 T4 V4 U4 JS' w4) ∧
        (ok2 = true → k' = T'.length ∧ Gen R (a + 1) T' ∧ cldB R T' = true ∧ VV R n T' (a + 1) = GG R n T a) ∧ (ok2 = false → GG R n T a = []) := by
  obtain ⟨V', U', JS', x, st, hav, hp, how, hu, hj, hcg⟩ := h
  have hne : gs ≠ vb ∧ gs ≠ cb ∧ gs ≠ bb := ⟨by omega, by omega, by omega⟩
  have st2 := st.far hJ (o := 0) (v := .int .i64 (a : Int)) hu hj hne (fun i v hv b hb e => by rw [hav] at hv; have := har i v hv b hb; omega)
  have how2 : (wr.setCell ⟨gs, 0, none⟩ (.int .i64 (a : Int))).ownsRow 0 3 1 (.slice (some ⟨gs, 0, none⟩) 1 sc) 1 [.int .i64 (a : Int)] := own_set (j := 0) how (.int .i64 (a : Int))
  have hRd := own_rd how2
  refine ⟨own_free how 0, ⟨_, own_cell how rfl⟩, ?_⟩
  refine (grow_any c n a T.length R (fun _ => 0) T V' U' [a] _ _ st2.ch (sat_of hcl) (Nat.le_refl _) hRd (fun g hg2 => by cases hg2; exact hu) (fun y hy => by rw [List.mem_singleton.1 hy]; exact ha) (by omega) hn (fun _ => by omega)).mono ?_
  rintro e w3 ⟨T', k', tv, U2, ok2, rfl, q1, q2, q3, q4, q5⟩
  have hsub : ∀ b, ¬ U' b → b < (wr.setCell ⟨gs, 0, none⟩ (.int .i64 (a : Int))).heap.size → ¬ U2 b := fun b h1 h2 h3 => by
    rcases q2.sub b h3 with h4 | h4
    · exact h1 h4
    · omega
  refine ⟨T', k', _, U2, JS', ok2, rfl, q1, hav, ?_, q5, q3.kle, q2.own how2 (fun g hg2 => by cases hg2; exact hu), hsub gs hu (own_lt how2 rfl), hj, (chg_far hcg hw).trans (chg_l q2), fun w4 V4 U4 T4 p1 p2 p3 => ?_, fun ho => ?_, fun ho => ?_⟩
  · obtain ⟨X, e, _⟩ := q3.pre
    exact ⟨X, e⟩
  · exact st2.move hJ (q2.trans p1) p3 (by rw [p2, hav])
  · subst ho
    obtain ⟨e1, e2⟩ := q4 rfl
    subst e1
    have hD := q3.done rfl (fun x hx => by
      rcases hx with hx | hx
      · obtain ⟨X, e, _⟩ := q3.pre; rw [e]; exact List.mem_append_left _ hx
      · exact e2 x hx)
    refine ⟨rfl, gen_next hg hD, cld_of hD, gg_good ha haT (e2 a (by simp)) fun x hx => ?_⟩
    obtain ⟨X, e, hX⟩ := q3.pre
    rw [e]
    constructor
    · intro h5
      rcases List.mem_append.1 h5 with h5 | h5
      · exact h5
      · have := hX x h5; omega
    · exact fun h5 => List.mem_append_left _ h5
  · obtain ⟨y, y1, y2, y3⟩ := q3.bad ho
    exact gg_bad ha haT hg y1 y2 y3
end
set_option maxRecDepth 100000 in
set_option maxHeartbeats 3200000 in
theorem bel_step (c n : Nat) (R : List Hrl) (vb cb bb gv : Nat) (lbs : Array Value) (J : List (List Nat) → (Nat → Prop) → World → Prop) (ok : List (List Nat) → Bool) (N : Nat) (hn : n ≤ 1000000) (eg : ∀ args w, (callFunc gv args).run Try.prog w = .ok (.enter gv args) w)
    (hJ : ∀ d JS w w', J d JS w → (∀ b, JS b → w'.heap[b]? = w.heap[b]?) → w.heap.size ≤ w'.heap.size → J d JS w')
    (hV : ∀ d T V U JS w, d.length < N → cldB R T = true → St c n R vb cb bb gv lbs J d T V U JS w → Calls Try.prog gv lbs w fun e w' => e = .returned (.tuple #[.slice none 0 0, .bool (ok (d ++ [mems T n]))]) ∧ ∃ JS', J (d ++ [mems T n]) JS' w' ∧ Chg JS JS' w w' ∧ ∀ b, JS' b → b < w'.heap.size)
    (f : Nat) (hf : f ≤ n) (IH : ∀ f', f < f' → f' ≤ n → ∀ d T V U JS w, St c n R vb cb bb gv lbs J d T V U JS w → Gen R f' T → cldB R T = true → (d ++ VV R n T f').length ≤ N →
      Calls Try.prog 72 #[.int .i64 f', .pointer (some ⟨vb, 0, none⟩), .pointer (some ⟨cb, 0, none⟩), .pointer (some ⟨bb, 0, none⟩)] w (BelP c n R vb cb bb gv lbs J ok d T f' V U JS w))
    (d : List (List Nat)) (T : List Nat) (V : CV) (U JS : Nat → Prop) (w : World) (h : St c n R vb cb bb gv lbs J d T V U JS w) (hg : Gen R f T) (hc : cldB R T = true) (hN : (d ++ VV R n T f).length ≤ N) :
    Calls Try.prog 72 #[.int .i64 f, .pointer (some ⟨vb, 0, none⟩), .pointer (some ⟨cb, 0, none⟩), .pointer (some ⟨bb, 0, none⟩)] w (BelP c n R vb cb bb gv lbs J ok d T f V U JS w) := by
  have hT : ∀ x ∈ T, x < n := h.ch.tn
  have hTn := h.ch.len
  obtain ⟨rest, hrest⟩ := vv_ext (R := R) (n := n) (T := T) (Nat.le_refl n) (n - f) f (by omega) hg
  rw [vv_end hT hc] at hrest
  have k1 : w.cell? ⟨vb, 0, none⟩ = some (.func (.func gv) #[] lbs) := blk_cell (cs := [.func (.func gv) #[] lbs]) h.hv rfl
  have HVC := hid_of (hV d T V U JS w (by rw [hrest] at hN; simp at hN; omega) hc h)
  obtain ⟨b1, hb1⟩ : ∃ b, b = ok (d ++ [mems T n]) := ⟨_, rfl⟩
  rw [← hb1] at HVC
  have HB1 := hid_of hb1
  cases b1
  · have HE : Hid (∀ w1 JS', J (d ++ [mems T n]) JS' w1 → Chg JS JS' w w1 → BelP c n R vb cb bb gv lbs J ok d T f V U JS w (.returned (.bool false)) w1) := hid_of (fun w1 JS' hj hch => by
      have e : prc ok d (VV R n T f) = (d ++ [mems T n], false) := by rw [hrest]; simp [prc, ← HB1.out]
      unfold BelP
      rw [e]
      exact ⟨rfl, V, U, JS', chg_r hch, hj, rfl, (fun h => by cases h)⟩)
    clear h hg hc hN hrest hb1 hV hJ
    go_enter Try.func72, Try.ntmps72
    go_wp2_with (go_at_fn gv; go_loud (refine (HVC.out).mono ?_; rintro x w1 ⟨rfl, JS', h2, h3, h4⟩; have H2 := hid_of (HE.out w1 JS' h2 h3); clear h2 h3 h4))
    go_ret
    exact H2.out
  · have hbx : vb < w.heap.size ∧ cb < w.heap.size ∧ bb < w.heap.size := ⟨lt_of_block h.hv, lt_of_block h.hc, lt_of_block h.hb⟩
    have har : ∀ (i : Nat) (v : Value), V.ar[i]? = some v → ∀ b, v.ownBlock = some b → b < w.heap.size := fun i v hv b hb => ((h.ch.ai i v hv).2 b hb).1
    have HBOX : Hid (∀ A w', Chg (orS U JS) A w w' → w'.cell? ⟨cb, 0, none⟩ = some (.pointer (some ⟨c, 0, none⟩)) ∧ w'.cell? ⟨bb, 0, none⟩ = some (.func (.func 72) #[] #[.pointer (some ⟨vb, 0, none⟩), .pointer (some ⟨cb, 0, none⟩), .pointer (some ⟨bb, 0, none⟩)])) := hid_of (fun A w' hch => by
      have n1 := h.nu cb (.inr (.inl rfl))
      have n2 := h.nu bb (.inr (.inr rfl))
      exact ⟨blk_cell (cs := [.pointer (some ⟨c, 0, none⟩)]) (hch.blk h.hc (fun h5 => h5.elim n1.1 n1.2)) rfl, blk_cell (cs := [.func (.func 72) #[] #[.pointer (some ⟨vb, 0, none⟩), .pointer (some ⟨cb, 0, none⟩), .pointer (some ⟨bb, 0, none⟩)]]) (hch.blk h.hb (fun h5 => h5.elim n2.1 n2.2)) rfl⟩)
    obtain ⟨ta, tc, htv⟩ := h.ch.tvs
    have e1 : prc ok d (VV R n T n) = (d ++ [mems T n], true) := by rw [vv_end hT hc]; simp [prc, ← HB1.out]
    have HST1 : Hid (∀ w1 JS1, J (d ++ [mems T n]) JS1 w1 → Chg JS JS1 w w1 → (∀ b, JS1 b → b < w1.heap.size) → (w1.cell? ⟨cb, 0, none⟩ = some (.pointer (some ⟨c, 0, none⟩)) ∧ w1.cell? ⟨c, 5, none⟩ = some (.slice ta T.length tc)) ∧ ∀ w3 gs sc, w1.heap.size ≤ gs → Below w1.heap.size w1 w3 → w3.ownsRow 0 3 1 (.slice (some ⟨gs, 0, none⟩) 1 sc) 1 [.int .i64 0] →
        (w3.cell? ⟨cb, 0, none⟩ = some (.pointer (some ⟨c, 0, none⟩)) ∧ w3.cell? ⟨c, 4, none⟩ = some (.slice (some ⟨V.gh, 0, none⟩) n n)) ∧ BlI c n R vb cb bb gv lbs J ok d T V U JS w gs sc n w3 ∧ w.heap.size ≤ gs) := hid_of (fun w1 JS1 hj hch hs => by
      have st1 := h.visit hch hj hs
      have q1 := HBOX.out _ w1 (chg_r hch)
      refine ⟨⟨q1.1, by have := st1.ch.cell (j := 5) rfl; rw [htv] at this; exact this⟩, fun w3 gs sc hgs hb how => ?_⟩
      have st3 := st1.below hJ hb
      refine ⟨⟨blk_cell (cs := [.pointer (some ⟨c, 0, none⟩)]) st3.hc rfl, st3.ch.cell (j := 4) rfl⟩, ⟨V, U, JS1, 0, ?_, rfl, ?_, how, fun hU => by have := st1.ch.sz gs hU; omega, fun hU => by have := hs gs hU; omega, (chg_r hch).trans (Chg.ofBelow hb)⟩, by have := hch.kept.size; omega⟩
      · rw [e1]; exact st3
      · rw [e1])
    have HEX : Hid (∀ gs sc wr, BlI c n R vb cb bb gv lbs J ok d T V U JS w gs sc f wr → BelP c n R vb cb bb gv lbs J ok d T f V U JS w (.returned (.bool true)) wr) := hid_of (fun gs sc wr hi => by
      obtain ⟨V', U', JS', x, st, hav, hp, _, _, _, hcg⟩ := hi
      exact ⟨by rw [hp], V', U', JS', hcg, st.j, hav, fun _ => st⟩)
    have HCE : Hid (∀ gs sc a wr, a < n → BlI c n R vb cb bb gv lbs J ok d T V U JS w gs sc (a + 1) wr → ∃ gh, wr.cell? ⟨cb, 0, none⟩ = some (.pointer (some ⟨c, 0, none⟩)) ∧ wr.cell? ⟨c, 4, none⟩ = some (.slice (some ⟨gh, 0, none⟩) n n) ∧ wr.cell? ⟨gh, a, none⟩ = some (.bool (memB T a))) := hid_of (fun gs sc a wr ha hi => by
      obtain ⟨V', U', JS', x, st, hav, hp, _, _, _, hcg⟩ := hi
      exact ⟨V'.gh, blk_cell (cs := [.pointer (some ⟨c, 0, none⟩)]) st.hc rfl, st.ch.cell (j := 4) rfl, st.ch.hasc ha⟩)
    have HIN : Hid (∀ gs sc a wr, f ≤ a → a < n → a ∈ T → BlI c n R vb cb bb gv lbs J ok d T V U JS w gs sc (a + 1) wr → BlI c n R vb cb bb gv lbs J ok d T V U JS w gs sc a wr) := hid_of (fun gs sc a wr hfa ha haT hi => hi.in ha (hg.mono hfa) haT)
    have HSHR : ∀ (gs sc a : Nat) (w4 : World) (T' : List Nat) (k' : Nat) (V2 : CV) (U2 JS2 : Nat → Prop) (dj : List (List Nat)), a < n → a ∉ T → w.heap.size ≤ gs → prc ok d (VV R n T a) = (dj, true) → (∃ X, T' = T ++ X) → T.length ≤ k' → k' ≤ T'.length → CH w4 c n R (lackR R (fun _ => 0) (T'.take k')) (memB T') T' k' V2 U2 → w4.ownsRow 0 3 1 (.slice (some ⟨gs, 0, none⟩) 1 sc) 1 [.int .i64 (a : Int)] → ¬ U2 gs → ¬ JS2 gs → Chg (orS U JS) (orS U2 JS2) w w4 → V2.ar = V.ar →
        (∀ w5 V4 U4 T4, Chg U2 U4 w4 w5 → V4.ar = V.ar → CH w5 c n R (lackR R (fun _ => 0) (T4.take T4.length)) (memB T4) T4 T4.length V4 U4 → St c n R vb cb bb gv lbs J dj T4 V4 U4 JS2 w5) →
        Calls Try.prog 69 #[.pointer (some ⟨c, 0, none⟩), .int .i64 T.length] w4 fun e w5 => e = .returned (.tuple #[]) ∧ BlI c n R vb cb bb gv lbs J ok d T V U JS w gs sc a w5 := fun gs sc a w4 T' k' V2 U2 JS2 dj ha haT hgs hp hX hk1 hk2 hch how hu hjs hcg hav hst => by
      obtain ⟨X, rfl⟩ := hX
      refine (shr_any c n T.length k' R (fun _ => 0) (T ++ X) V2 U2 w4 hch hk2 (by simp) hn (fun _ => by omega)).mono ?_
      rintro e w5 ⟨rfl, tv, q1, q2⟩
      rw [List.take_left, Nat.min_eq_right hk1] at q1
      refine ⟨rfl, { V2 with tv := tv }, U2, JS2, (a : Int), ?_, hav, by rw [hp], q2.own how (fun g hg2 => by cases hg2; exact hu), hu, hjs, hcg.trans (chg_l q2)⟩
      rw [hp]
      exact hst w5 { V2 with tv := tv } U2 T q2 hav q1
    have HBAD : Hid (∀ gs sc a wr, f ≤ a → a < n → a ∉ T → w.heap.size ≤ gs → GG R n T a = [] → BlI c n R vb cb bb gv lbs J ok d T V U JS w gs sc (a + 1) wr → wr.frozen? ⟨gs, 0, none⟩ = false ∧ (∃ x, wr.cell? ⟨gs, 0, none⟩ = some x) ∧ Calls Try.prog 71 #[.pointer (some ⟨c, 0, none⟩), .slice (some ⟨gs, 0, none⟩) 1 sc, .int .i64 a] (wr.setCell ⟨gs, 0, none⟩ (.int .i64 (a : Int))) fun e w3 => e = .returned (.bool false) ∧ w3.cell? ⟨cb, 0, none⟩ = some (.pointer (some ⟨c, 0, none⟩)) ∧
        Calls Try.prog 69 #[.pointer (some ⟨c, 0, none⟩), .int .i64 T.length] w3 fun e w5 => e = .returned (.tuple #[]) ∧ BlI c n R vb cb bb gv lbs J ok d T V U JS w gs sc a w5) := hid_of (fun gs sc a wr hfa ha haT hgs hGG hi => by
      obtain ⟨q1, q2, q3⟩ := hi.good hn hJ hgs hbx har hc ha haT (hg.mono hfa)
      refine ⟨q1, q2, q3.mono fun e w3 hq => ?_⟩
      obtain ⟨T', k', V2, U2, JS', ok2, rfl, p1, p2, p3, p4, p5, p6, p7, p8, p9, p10, p11, p12⟩ := hq
      have ho : ok2 = false := by
        cases ok2 with
        | false => rfl
        | true =>
          obtain ⟨_, g1, g2, g3⟩ := p11 rfl
          obtain ⟨rest, hr⟩ := vv_ext (R := R) (n := n) (T := T') (Nat.le_refl n) (n - (a + 1)) (a + 1) (by omega) g1
          rw [g3, hGG, vv_end p1.tn g2] at hr
          simp at hr
      subst ho
      obtain ⟨V', U', JSx, x, st, hav, hp, _⟩ := hi
      refine ⟨rfl, (HBOX.out _ w3 p9).1, HSHR gs sc a w3 T' k' V2 U2 JS' _ ha haT hgs ?_ p3 p4 p5 p1 p6 p7 p8 p9 p2 p10⟩
      rw [vv_gg ha haT, hGG, List.append_nil, ← hp])
    have HGOOD : Hid (∀ gs sc a wr b2, f ≤ a → a < n → a ∉ T → w.heap.size ≤ gs → GG R n T a ≠ [] → b2 = (prc ok (prc ok d (VV R n T (a + 1))).1 (GG R n T a)).2 → BlI c n R vb cb bb gv lbs J ok d T V U JS w gs sc (a + 1) wr → wr.frozen? ⟨gs, 0, none⟩ = false ∧ (∃ x, wr.cell? ⟨gs, 0, none⟩ = some x) ∧ Calls Try.prog 71 #[.pointer (some ⟨c, 0, none⟩), .slice (some ⟨gs, 0, none⟩) 1 sc, .int .i64 a] (wr.setCell ⟨gs, 0, none⟩ (.int .i64 (a : Int))) fun e w3 => e = .returned (.bool true) ∧ w3.cell? ⟨bb, 0, none⟩ = some (.func (.func 72) #[] #[.pointer (some ⟨vb, 0, none⟩), .pointer (some ⟨cb, 0, none⟩), .pointer (some ⟨bb, 0, none⟩)]) ∧
        Calls Try.prog 72 #[.int .i64 ((a : Int) + 1), .pointer (some ⟨vb, 0, none⟩), .pointer (some ⟨cb, 0, none⟩), .pointer (some ⟨bb, 0, none⟩)] w3 fun e w4 => e = .returned (.bool b2) ∧ (b2 = false → BelP c n R vb cb bb gv lbs J ok d T f V U JS w (.returned (.bool false)) w4) ∧ (b2 = true → w4.cell? ⟨cb, 0, none⟩ = some (.pointer (some ⟨c, 0, none⟩)) ∧
        Calls Try.prog 69 #[.pointer (some ⟨c, 0, none⟩), .int .i64 T.length] w4 fun e w5 => e = .returned (.tuple #[]) ∧ BlI c n R vb cb bb gv lbs J ok d T V U JS w gs sc a w5)) := hid_of (fun gs sc a wr b2 hfa ha haT hgs hGG hb2 hi => by
      obtain ⟨q1, q2, q3⟩ := hi.good hn hJ hgs hbx har hc ha haT (hg.mono hfa)
      refine ⟨q1, q2, q3.mono fun e w3 hq => ?_⟩
      obtain ⟨T', k', V2, U2, JS', ok2, rfl, p1, p2, p3, p4, p5, p6, p7, p8, p9, p10, p11, p12⟩ := hq
      have ho : ok2 = true := by
        cases ok2 with
        | true => rfl
        | false => exact absurd (p12 rfl) hGG
      subst ho
      obtain ⟨e2, g1, g2, g3⟩ := p11 rfl
      subst e2
      obtain ⟨V', U', JSx, x, st, hav, hp, _⟩ := hi
      obtain ⟨dj, hdj⟩ : ∃ dj, dj = (prc ok d (VV R n T (a + 1))).1 := ⟨_, rfl⟩
      have hpa : prc ok d (VV R n T a) = prc ok dj (GG R n T a) := by rw [vv_gg ha haT, prc_yes ok _ _ _ hp, hdj]
      rw [← hdj] at hb2 p10
      obtain ⟨rest2, hrest2⟩ := vv_ext (R := R) (n := n) (T := T) (Nat.le_of_lt ha) (a - f) f (by omega) hg
      have st3 := p10 w3 V2 U2 T' (Chg.refl _ _) p2 p1
      have hlen : (dj ++ VV R n T' (a + 1)).length ≤ N := by
        rw [g3, hdj, prc_len ok _ _ hp]
        rw [hrest2, vv_gg ha haT] at hN
        simp at hN ⊢
        omega
      refine ⟨rfl, (HBOX.out _ w3 p9).2, (IH (a + 1) (by omega) (by omega) dj T' V2 U2 JS' w3 st3 g1 g2 hlen).mono fun e w4 hb => ?_⟩
      obtain ⟨rfl, V3, U3, JS3, r1, r2, r3, r4⟩ := hb
      rw [g3] at r2 r4 ⊢
      refine ⟨by rw [hb2], fun h5 => ?_, fun h5 => ?_⟩
      · have e3 : prc ok d (VV R n T f) = prc ok dj (GG R n T a) := by
          rw [hrest2, prc_no ok _ _ _ (by rw [hpa, ← hb2, h5]), hpa]
        unfold BelP
        rw [e3, ← hb2, h5]
        exact ⟨rfl, V3, U3, JS3, p9.trans r1, r2, r3.trans p2, (fun h => by cases h)⟩
      · have st4 := r4 (by rw [← hb2]; exact h5)
        have hsub : ∀ b, ¬ U2 b → ¬ JS' b → b < w3.heap.size → ¬ U3 b ∧ ¬ JS3 b := fun b h1 h2 h3 => ⟨fun h4 => by
          rcases r1.sub b (.inl h4) with h6 | h6
          · exact h6.elim h1 h2
          · omega, fun h4 => by
          rcases r1.sub b (.inr h4) with h6 | h6
          · exact h6.elim h1 h2
          · omega⟩
        have hs2 := hsub gs p7 p8 (own_lt p6 rfl)
        refine ⟨(HBOX.out _ w4 (p9.trans r1)).1, HSHR gs sc a w4 T' T'.length V3 U3 JS3 _ ha haT hgs ?_ p3 p4 (Nat.le_refl _) st4.ch (r1.own p6 fun g hg2 => by cases hg2; exact fun h6 => h6.elim p7 p8) hs2.1 hs2.2 (p9.trans r1) (r3.trans p2) (fun w5 V4 U4 T4 s1 s2 s3 => st4.move hJ s1 s3 (by rw [s2, r3, p2]))⟩
        rw [hpa]
        exact Prod.ext rfl (by rw [← hb2, h5]))
    have HSC : Hid (∀ (gs : Nat) (wr : World) (u v : Value), w.heap.size ≤ gs → wr.cell? ⟨cb, 0, none⟩ = some u → (wr.setCell ⟨gs, 0, none⟩ v).cell? ⟨cb, 0, none⟩ = some u) := hid_of (fun gs wr u v hgs hcb => by
      unfold World.cell? at hcb ⊢
      rw [set_other (show cb ≠ gs by have := hbx.2.1; omega)]; exact hcb)
    have HN1 : Hid (n ≤ 1000000) := hid_of hn
    have HF := hid_of hf
    have hnb : n ≤ 9223372036854775807 := by omega
    clear h hg hc hN hrest hb1 hV hJ HB1 hbx har htv e1 HSHR IH hT
    go_enter Try.func72, Try.ntmps72
    go_wp2_with (first
      | (go_at_fn gv; go_loud (refine (HVC.out).mono ?_; rintro x w1 ⟨rfl, JS', h2, h3, h4⟩; have H2 := hid_of (HST1.out w1 JS' h2 h3 h4); clear h2 h3 h4; have y1 := H2.out.1.1; have y2 := H2.out.1.2))
      | (at_builtin; refine wpList_nil rfl (.tmp 23) (.tmp 24) rfl (.slice (some ⟨w1.heap.size, 0, none⟩) 1 1) [.int .i64 0] rfl (own_lit w1 0) rfl ?_; intro gs sc w3 h5 h6 h7; have H3 := hid_of (H2.out.2 w3 gs sc (by rcases h7 with h7 | h7 <;> simp [Value.ownBlock] at h7 <;> omega) ((bel_alloc w1 (.cells #[.int .i64 0] 3)).grown h6 (by simp) (fun k hk => by simp [Value.ownBlock] at hk; omega)) h5); clear h5 h6 h7; have y3 := H3.out.1.1; have y4 := H3.out.1.2))
    have HGS := hid_of H3.out.2.2
    have HB0 := hid_of H3.out.2.1
    clear y1 y2 y3 y4 H2 H3 HST1 HVC k1 hTn
    go_loopw [10] (fun xv wr => ∃ (j : Nat) (x : Int), xv = .int .i64 x ∧ Hid (x = (j : Int) - 1) ∧ -1 ≤ x ∧ x ≤ 1000000 ∧ f ≤ j ∧ j ≤ n ∧ Hid (BlI c n R vb cb bb gv lbs J ok d T V U JS w gs sc j wr)) (fun xv _ => (intOf xv + 1).toNat)
    case atStart => exact ⟨n, _, rfl, hid_of rfl, by omega, by omega, HF.out, Nat.le_refl _, HB0⟩
    case round =>
      obtain ⟨j, x, rfl, hx, hx1, hx2, hfj, hjn, hi⟩ := hrel
      by_cases hlt : f < j
      · obtain ⟨a, rfl⟩ : ∃ a, j = a + 1 := ⟨j - 1, by omega⟩
        obtain rfl : x = (a : Int) := by have := hx.out; omega
        have t1 : decide (f ≤ a) = true := by simp; omega
        have t2 : decide (a ≥ f) = true := by simp; omega
        have han : a < n := by omega
        obtain ⟨gh, m1, m2, m3⟩ := HCE.out gs sc a wr han hi.out
        by_cases haT : a ∈ T
        · rw [show memB T a = true from decide_eq_true haT] at m3
          have HN := hid_of (HIN.out gs sc a wr (by omega) han haT hi.out)
          clear haT hi
          go_wp2
          go_roundw
          case rel => exact ⟨a, _, rfl, hid_of rfl, by omega, by omega, by omega, by omega, HN⟩
          case measure => simp [intOf] <;> omega
        · rw [show memB T a = false from decide_eq_false haT] at m3
          by_cases hGG : GG R n T a = []
          · obtain ⟨o1, ⟨o2, o3⟩, o4⟩ := HBAD.out gs sc a wr (by omega) han haT HGS.out hGG hi.out
            have O4 := hid_of o4
            have g1 : (wr.setCell ⟨gs, 0, none⟩ (.int .i64 (a : Int))).cell? ⟨cb, 0, none⟩ = some (.pointer (some ⟨c, 0, none⟩)) := HSC.out _ _ _ _ HGS.out m1
            clear o4 hGG haT hi
            go_wp2_with (first
              | (go_at_call 71; ((with_reducible refine (O4.out).mono ?_); (rintro e w4 ⟨rfl, h5, h6⟩)); have y5 := h5; have H6 := hid_of h6; clear h5 h6)
              | (go_at_call 69; ((with_reducible refine (H6.out).mono ?_); (rintro e w5 ⟨rfl, h5⟩)); have H7 := hid_of h5; clear h5))
            go_roundw
            case rel => exact ⟨a, _, rfl, hid_of rfl, by omega, by omega, by omega, by omega, H7⟩
            case measure => simp [intOf] <;> omega
          · obtain ⟨b2, hb2⟩ : ∃ b2, b2 = (prc ok (prc ok d (VV R n T (a + 1))).1 (GG R n T a)).2 := ⟨_, rfl⟩
            obtain ⟨o1, ⟨o2, o3⟩, o4⟩ := HGOOD.out gs sc a wr b2 (by omega) han haT HGS.out hGG hb2 hi.out
            have g1 : (wr.setCell ⟨gs, 0, none⟩ (.int .i64 (a : Int))).cell? ⟨cb, 0, none⟩ = some (.pointer (some ⟨c, 0, none⟩)) := HSC.out _ _ _ _ HGS.out m1
            clear hGG haT hi hb2
            cases b2
            · have O5 : Hid (Calls Try.prog 71 #[.pointer (some ⟨c, 0, none⟩), .slice (some ⟨gs, 0, none⟩) 1 sc, .int .i64 a] (wr.setCell ⟨gs, 0, none⟩ (.int .i64 (a : Int))) fun e w3 => e = .returned (.bool true) ∧ w3.cell? ⟨bb, 0, none⟩ = some (.func (.func 72) #[] #[.pointer (some ⟨vb, 0, none⟩), .pointer (some ⟨cb, 0, none⟩), .pointer (some ⟨bb, 0, none⟩)]) ∧ Calls Try.prog 72 #[.int .i64 ((a : Int) + 1), .pointer (some ⟨vb, 0, none⟩), .pointer (some ⟨cb, 0, none⟩), .pointer (some ⟨bb, 0, none⟩)] w3 fun e w4 => e = .returned (.bool false) ∧ BelP c n R vb cb bb gv lbs J ok d T f V U JS w (.returned (.bool false)) w4) := hid_of (o4.mono fun e w3 ⟨h1, h2, h3⟩ => ⟨h1, h2, h3.mono fun e w4 ⟨h4, h5, _⟩ => ⟨h4, h5 rfl⟩⟩)
              clear o4
              go_wp2_with (first
                | (go_at_call 71; ((with_reducible refine (O5.out).mono ?_); (rintro e w4 ⟨rfl, h5, h6⟩)); have y5 := h5; have H6 := hid_of h6; clear h5 h6)
                | (go_at_call 72; ((with_reducible refine (H6.out).mono ?_); (rintro e w5 ⟨rfl, h5⟩)); have H7 := hid_of h5; clear h5))
              go_ret
              exact H7.out
            · have O5 : Hid (Calls Try.prog 71 #[.pointer (some ⟨c, 0, none⟩), .slice (some ⟨gs, 0, none⟩) 1 sc, .int .i64 a] (wr.setCell ⟨gs, 0, none⟩ (.int .i64 (a : Int))) fun e w3 => e = .returned (.bool true) ∧ w3.cell? ⟨bb, 0, none⟩ = some (.func (.func 72) #[] #[.pointer (some ⟨vb, 0, none⟩), .pointer (some ⟨cb, 0, none⟩), .pointer (some ⟨bb, 0, none⟩)]) ∧ Calls Try.prog 72 #[.int .i64 ((a : Int) + 1), .pointer (some ⟨vb, 0, none⟩), .pointer (some ⟨cb, 0, none⟩), .pointer (some ⟨bb, 0, none⟩)] w3 fun e w4 => e = .returned (.bool true) ∧ w4.cell? ⟨cb, 0, none⟩ = some (.pointer (some ⟨c, 0, none⟩)) ∧ Calls Try.prog 69 #[.pointer (some ⟨c, 0, none⟩), .int .i64 T.length] w4 fun e w5 => e = .returned (.tuple #[]) ∧ BlI c n R vb cb bb gv lbs J ok d T V U JS w gs sc a w5) := hid_of (o4.mono fun e w3 ⟨h1, h2, h3⟩ => ⟨h1, h2, h3.mono fun e w4 ⟨h4, _, h5⟩ => ⟨h4, (h5 rfl).1, (h5 rfl).2⟩⟩)
              clear o4
              go_wp2_with (first
                | (go_at_call 71; ((with_reducible refine (O5.out).mono ?_); (rintro e w4 ⟨rfl, h5, h6⟩)); have y5 := h5; have H6 := hid_of h6; clear h5 h6)
                | (go_at_call 72; ((with_reducible refine (H6.out).mono ?_); (rintro e w5 ⟨rfl, h5, h6⟩)); have y6 := h5; have H7 := hid_of h6; clear h5 h6)
                | (go_at_call 69; ((with_reducible refine (H7.out).mono ?_); (rintro e w6 ⟨rfl, h5⟩)); have H8 := hid_of h5; clear h5))
              go_roundw
              case rel => exact ⟨a, _, rfl, hid_of rfl, by omega, by omega, by omega, by omega, H8⟩
              case measure => simp [intOf] <;> omega
      · obtain rfl : f = j := by omega
        have t1 : decide ((f : Int) ≤ x) = false := by simp; have := hx.out; omega
        have t2 : decide (x ≥ (f : Int)) = false := by simp; have := hx.out; omega
        have HE := hid_of (HEX.out gs sc wr hi.out)
        clear hi hx
        go_wp2
        go_ret
        exact HE.out

theorem bel_any (c n : Nat) (R : List Hrl) (vb cb bb gv : Nat) (lbs : Array Value) (J : List (List Nat) → (Nat → Prop) → World → Prop) (ok : List (List Nat) → Bool) (N : Nat) (hn : n ≤ 1000000) (eg : ∀ args w, (callFunc gv args).run Try.prog w = .ok (.enter gv args) w)
    (hJ : ∀ d JS w w', J d JS w → (∀ b, JS b → w'.heap[b]? = w.heap[b]?) → w.heap.size ≤ w'.heap.size → J d JS w')
    (hV : ∀ d T V U JS w, d.length < N → cldB R T = true → St c n R vb cb bb gv lbs J d T V U JS w → Calls Try.prog gv lbs w fun e w' => e = .returned (.tuple #[.slice none 0 0, .bool (ok (d ++ [mems T n]))]) ∧ ∃ JS', J (d ++ [mems T n]) JS' w' ∧ Chg JS JS' w w' ∧ ∀ b, JS' b → b < w'.heap.size) :
    ∀ (F f : Nat), n ≤ f + F → f ≤ n → ∀ d T V U JS w, St c n R vb cb bb gv lbs J d T V U JS w → Gen R f T → cldB R T = true → (d ++ VV R n T f).length ≤ N →
      Calls Try.prog 72 #[.int .i64 f, .pointer (some ⟨vb, 0, none⟩), .pointer (some ⟨cb, 0, none⟩), .pointer (some ⟨bb, 0, none⟩)] w (BelP c n R vb cb bb gv lbs J ok d T f V U JS w) := by
  intro F
  induction F with
  | zero => exact fun f hF hf d T V U JS w h hg hc hN => bel_step c n R vb cb bb gv lbs J ok N hn eg hJ hV f hf (fun f' h1 h2 => by omega) d T V U JS w h hg hc hN
  | succ F ih => exact fun f hF hf d T V U JS w h hg hc hN => bel_step c n R vb cb bb gv lbs J ok N hn eg hJ hV f hf (fun f' h1 h2 => ih f' (by omega) h2) d T V U JS w h hg hc hN
end Go.Proofs.Ytedohggbpmcehaa

/- walk. Bounds on sizes alone. -/
namespace Go.Proofs.Ytedohggbpmcehaa
open Go.RowKit

/-- All closed sets in lectic order. -/
def allS (R : List Hrl) (n : Nat) : List (List Nat) := (subs n 0).filter (cldB R)
theorem vv_all (R : List Hrl) (n : Nat) (T : List Nat) : VV R n T 0 = allS R n := by
  unfold VV allS
  have : mems T 0 = [] := by simp [mems]
  rw [this, Nat.sub_zero]
  simp
def WalP (c n : Nat) (R : List Hrl) (J : List (List Nat) → (Nat → Prop) → World → Prop) (ok : List (List Nat) → Bool) (V : CV) (U JS : Nat → Prop) (w : World) (e : Ending) (w' : World) : Prop :=
  e = .returned (.bool (prc ok [] (allS R n)).2) ∧ ∃ V' U' JS', Chg (orS U JS) (orS U' JS') w w' ∧ J (prc ok [] (allS R n)).1 JS' w' ∧ V'.ar = V.ar ∧
    ((prc ok [] (allS R n)).2 = true → ∃ T', CH w' c n R (lackR R (fun _ => 0) (T'.take T'.length)) (memB T') T' T'.length V' U' ∧ ∀ b, JS' b → ¬ U' b)

set_option maxRecDepth 100000 in
set_option maxHeartbeats 1600000 in
theorem wal_any (c n k gv : Nat) (R : List Hrl) (lbs : Array Value) (J : List (List Nat) → (Nat → Prop) → World → Prop) (ok : List (List Nat) → Bool) (N : Nat) (T : List Nat) (V : CV) (U JS : Nat → Prop) (w : World) (hn : n ≤ 1000000) (eg : ∀ args w, (callFunc gv args).run Try.prog w = .ok (.enter gv args) w)
    (hJ : ∀ d JS w w', J d JS w → (∀ b, JS b → w'.heap[b]? = w.heap[b]?) → w.heap.size ≤ w'.heap.size → J d JS w')
    (hV : ∀ vb cb bb d T V U JS w, d.length < N → cldB R T = true → St c n R vb cb bb gv lbs J d T V U JS w → Calls Try.prog gv lbs w fun e w' => e = .returned (.tuple #[.slice none 0 0, .bool (ok (d ++ [mems T n]))]) ∧ ∃ JS', J (d ++ [mems T n]) JS' w' ∧ Chg JS JS' w w' ∧ ∀ b, JS' b → b < w'.heap.size)
    (h : CH w c n R (lackR R (fun _ => 0) (T.take k)) (memB T) T k V U) (hk : k ≤ T.length) (hj : J [] JS w) (hjs : ∀ b, JS b → ¬ U b ∧ b < w.heap.size) (hab : ∀ (i : Nat) (v : Value), V.ar[i]? = some v → ∀ g, v.ownBlock = some g → ¬ JS g) (hN : (allS R n).length ≤ N) :
    Calls Try.prog 53 #[.pointer (some ⟨c, 0, none⟩), .func (.func gv) #[] lbs] w (WalP c n R J ok V U JS w) := by
  have hmf : ∀ (fn : Fn) (first cap : Array Value) (w : World), (Instr.makeFunc fn first cap).run Try.prog w = .ok (.func fn first cap) w := fun _ _ _ _ => rfl
  obtain ⟨W3, hW3⟩ : ∃ W3, W3 = ((w.alloc (.cells #[.pointer (some ⟨c, 0, none⟩)] 76)).alloc (.cells #[.func (.func gv) #[] lbs] 92)).alloc (.cells #[.func (.func 72) #[] #[.pointer (some ⟨w.heap.size + 1, 0, none⟩), .pointer (some ⟨w.heap.size, 0, none⟩), .pointer (some ⟨w.heap.size + 1 + 1, 0, none⟩)]] 103) := ⟨_, rfl⟩
  have h3 := three_new0 w (.cells #[.pointer (some ⟨c, 0, none⟩)] 76) (.cells #[.func (.func gv) #[] lbs] 92) (.cells #[.func (.func 72) #[] #[.pointer (some ⟨w.heap.size + 1, 0, none⟩), .pointer (some ⟨w.heap.size, 0, none⟩), .pointer (some ⟨w.heap.size + 1 + 1, 0, none⟩)]] 103)
  rw [← hW3] at h3
  obtain ⟨B3, n1, n2, n3⟩ := h3
  have ch3 := h.at B3
  have k1 : W3.cell? ⟨w.heap.size, 0, none⟩ = some (.pointer (some ⟨c, 0, none⟩)) := blk_cell (cs := [.pointer (some ⟨c, 0, none⟩)]) n1 rfl
  have HCL := hid_of (clo_any c n k R (fun _ => 0) T V U [] (.slice none 0 0) W3 ch3 hk ⟨none, 0, rfl, by simp [ints], by omega, fun h => by simp [ints] at h⟩ (fun g hg => by cases hg) (fun x hx => by simp at hx) hn (fun _ => by omega))
  have HST : Hid (∀ w4, CloP W3 c n R (fun _ => 0) [] V U (.returned (.tuple #[])) w4 → w4.cell? ⟨w.heap.size + 1 + 1, 0, none⟩ = some (.func (.func 72) #[] #[.pointer (some ⟨w.heap.size + 1, 0, none⟩), .pointer (some ⟨w.heap.size, 0, none⟩), .pointer (some ⟨w.heap.size + 1 + 1, 0, none⟩)]) ∧
      Calls Try.prog 72 #[.int .i64 0, .pointer (some ⟨w.heap.size + 1, 0, none⟩), .pointer (some ⟨w.heap.size, 0, none⟩), .pointer (some ⟨w.heap.size + 1 + 1, 0, none⟩)] w4 fun e w5 => e = .returned (.bool (prc ok [] (allS R n)).2) ∧ WalP c n R J ok V U JS w (.returned (.bool (prc ok [] (allS R n)).2)) w5) := hid_of (fun w4 hi => by
    obtain ⟨_, T', tv, U', q1, q2, q3⟩ := hi
    have hz : W3.heap.size = w.heap.size + 1 + 1 + 1 := by rw [hW3]; simp
    have hnU : ∀ b, w.heap.size ≤ b → ¬ U b := fun b hb hU => by have := h.sz b hU; omega
    have hsub : ∀ b, ¬ U b → b < W3.heap.size → ¬ U' b := fun b h1 h2 h5 => by
      rcases q2.sub b h5 with h6 | h6
      · exact h1 h6
      · omega
    have e1 := q2.blk n1 (hnU _ (Nat.le_refl _))
    have e2 := q2.blk n2 (hnU _ (by omega))
    have e3 := q2.blk n3 (hnU _ (by omega))
    have hjl : ∀ b, JS b → b < w.heap.size := fun b hb => (hjs b hb).2
    have hjq : ∀ b, JS b → w4.heap[b]? = w.heap[b]? := fun b hb => by
      rw [q2.kept.block b (by have := hjl b hb; omega) (hjs b hb).1, B3.block b (hjl b hb)]
    have st : St c n R (w.heap.size + 1) w.heap.size (w.heap.size + 1 + 1) gv lbs J [] T' { V with tv := tv } U' JS w4 := by
      refine ⟨q1, hJ [] JS w w4 hj hjq (by have := q2.kept.size; omega), fun b hb => ⟨hsub b (hjs b hb).1 (by have := hjl b hb; omega), by have := hjl b hb; have := q2.kept.size; omega⟩, hab, e2, e1, e3, fun b hb => ⟨hsub b (hnU b (by rcases hb with rfl | rfl | rfl <;> omega)) (by rcases hb with rfl | rfl | rfl <;> omega), fun hj2 => by have := hjl b hj2; rcases hb with rfl | rfl | rfl <;> omega⟩⟩
    have hgen : Gen R 0 T' := fun C hC _ x hx => der_least (C := fun x => x ∈ C) (cldB_iff.1 hC) (fun y hy => by simp at hy) ((q3 x).1 hx)
    refine ⟨blk_cell (cs := [.func (.func 72) #[] #[.pointer (some ⟨w.heap.size + 1, 0, none⟩), .pointer (some ⟨w.heap.size, 0, none⟩), .pointer (some ⟨w.heap.size + 1 + 1, 0, none⟩)]]) e3 rfl, ?_⟩
    refine (bel_any c n R (w.heap.size + 1) w.heap.size (w.heap.size + 1 + 1) gv lbs J ok N hn eg hJ (hV _ _ _) n 0 (by omega) (Nat.zero_le _) [] T' _ U' JS w4 st hgen (cld_of q3) (by rw [vv_all]; simpa using hN)).mono ?_
    rintro e w5 ⟨rfl, V2, U2, JS2, p1, p2, p3, p4⟩
    rw [vv_all] at p2 p4 ⊢
    refine ⟨rfl, rfl, V2, U2, JS2, ((Chg.ofBelow B3).trans (chg_l q2)).trans p1, p2, p3, fun h5 => ⟨T', (p4 h5).ch, fun b hb => ((p4 h5).ap b hb).1⟩⟩)
  obtain ⟨b, hb⟩ : ∃ b, b = (prc ok [] (allS R n)).2 := ⟨_, rfl⟩
  rw [← hb] at HST
  clear h hk hj hjs hab hN hV hJ ch3 n1 n2 n3 B3 hb
  subst hW3
  go_enter Try.func53, Try.ntmps53
  go_wp2_with (first
    | (go_at_call 47; ((with_reducible refine (HCL.out).mono ?_); (rintro e w4 h5; have h6 := h5.1; subst h6)); have H4 := hid_of (HST.out w4 h5); clear h5; have y4 := H4.out.1)
    | (go_at_call 72; ((with_reducible refine (H4.out.2).mono ?_); (rintro e w5 ⟨rfl, h5⟩)); have H5 := hid_of h5; clear h5))
  go_ret
  exact H5.out
end Go.Proofs.Ytedohggbpmcehaa

/- The counting visit of All. Bounds on sizes alone. -/
namespace Go.Proofs.Ytedohggbpmcehaa
open Go.RowKit

theorem mems_len {T : List Nat} {n : Nat} (hd : T.Nodup) (hT : ∀ x ∈ T, x < n) : (mems T n).length = T.length := by
  apply Nat.le_antisymm (mems_length hd n)
  have : ∀ (A B : List Nat), A.Nodup → (∀ x ∈ A, x ∈ B) → A.length ≤ B.length := by
    intro A
    induction A with
    | nil => intro B _ _; simp
    | cons a A ih =>
      intro B hA hB
      have ⟨h1, h2⟩ := List.nodup_cons.1 hA
      have h3 := ih (B.erase a) h2 (fun x hx => (List.mem_erase_of_ne (by rintro rfl; exact h1 hx)).2 (hB x (List.mem_cons_of_mem _ hx)))
      have h4 := List.length_erase_of_mem (hB a List.mem_cons_self)
      have h5 : 0 < B.length := List.length_pos_of_mem (hB a List.mem_cons_self)
      simp only [List.length_cons]
      omega
  exact this _ _ hd fun x hx => mem_mems.2 ⟨hT x hx, hx⟩
def sumL (d : List (List Nat)) : Nat := (d.map List.length).sum
theorem sumL_snoc (d : List (List Nat)) (x : List Nat) : sumL (d ++ [x]) = sumL d + x.length := by simp [sumL]
/-- What the counting visit holds. -/
structure J1 (kb ib xb lb c n : Nat) (lim : Int) (d : List (List Nat)) (JS : Nat → Prop) (w : World) : Prop where
  js : ∀ b, JS b ↔ b = kb ∨ b = ib ∨ b = xb ∨ b = lb
  k : w.heap[kb]? = some (.cells #[.int .i64 (d.length : Nat)] 3 (0, 0))
  i : w.heap[ib]? = some (.cells #[.int .i64 (sumL d : Nat)] 3 (0, 0))
  x : w.heap[xb]? = some (.cells #[.pointer (some ⟨c, 0, none⟩)] 76 (0, 0))
  l : w.heap[lb]? = some (.cells #[.int .i64 lim] 3 (0, 0))
  ne : kb ≠ ib ∧ kb ≠ xb ∧ kb ≠ lb ∧ ib ≠ xb ∧ ib ≠ lb
  sm : sumL d ≤ d.length * n
theorem J1.stable {kb ib xb lb c n : Nat} {lim : Int} : ∀ d JS w w', J1 kb ib xb lb c n lim d JS w → (∀ b, JS b → w'.heap[b]? = w.heap[b]?) → w.heap.size ≤ w'.heap.size → J1 kb ib xb lb c n lim d JS w' := fun _ _ _ _ h hs _ =>
  ⟨h.js, (hs kb ((h.js kb).2 (.inl rfl))).trans h.k, (hs ib ((h.js ib).2 (.inr (.inl rfl)))).trans h.i, (hs xb ((h.js xb).2 (.inr (.inr (.inl rfl))))).trans h.x, (hs lb ((h.js lb).2 (.inr (.inr (.inr rfl))))).trans h.l, h.ne, h.sm⟩
def okL (lim : Int) (d : List (List Nat)) : Bool := decide ((d.length : Int) ≤ lim)

set_option maxRecDepth 100000 in
set_option maxHeartbeats 800000 in
theorem all1_any (kb ib xb lb c n N : Nat) (lim : Int) (R : List Hrl) (hn : n ≤ 1000) (hNN : N ≤ 100000) (vb cb bb gv : Nat) (lbs : Array Value) (d : List (List Nat)) (T : List Nat) (V : CV) (U JS : Nat → Prop) (w : World) (hd : d.length < N) (h : St c n R vb cb bb gv lbs (J1 kb ib xb lb c n lim) d T V U JS w) (hl1 : -9223372036854775808 ≤ lim) (hl2 : lim ≤ 9223372036854775807) :
    Calls Try.prog 54 #[.pointer (some ⟨kb, 0, none⟩), .pointer (some ⟨ib, 0, none⟩), .pointer (some ⟨xb, 0, none⟩), .pointer (some ⟨lb, 0, none⟩)] w fun e w' => e = .returned (.tuple #[.slice none 0 0, .bool (okL lim (d ++ [mems T n]))]) ∧ ∃ JS', J1 kb ib xb lb c n lim (d ++ [mems T n]) JS' w' ∧ Chg JS JS' w w' ∧ ∀ b, JS' b → b < w'.heap.size := by
  have j := h.j
  have hml : (mems T n).length = T.length := mems_len h.ch.nd h.ch.tn
  have hTn := h.ch.len
  obtain ⟨ta, tc, htv⟩ := h.ch.tvs
  obtain ⟨q, hq⟩ : ∃ q, q = d.length := ⟨_, rfl⟩
  obtain ⟨s, hs⟩ : ∃ s, s = sumL d := ⟨_, rfl⟩
  obtain ⟨t, ht⟩ : ∃ t, t = T.length := ⟨_, rfl⟩
  have hsb : s ≤ 100000000 := by
    have h1 := j.sm
    rw [← hs, ← hq] at h1
    have : q * n ≤ 100000 * 1000 := Nat.mul_le_mul (by omega) hn
    omega
  have k1 : w.cell? ⟨kb, 0, none⟩ = some (.int .i64 (q : Nat)) := by rw [hq]; exact blk_cell (cs := [.int .i64 (d.length : Nat)]) j.k rfl
  have f1 : w.frozen? ⟨kb, 0, none⟩ = false := blk_free (cs := [.int .i64 (d.length : Nat)]) j.k 0
  have n1 := j.ne
  have hS1 : ∀ b, b ≠ kb → (w.setCell ⟨kb, 0, none⟩ (.int .i64 ((q : Int) + 1))).heap[b]? = w.heap[b]? := fun b hb => set_other hb
  have k2 : (w.setCell ⟨kb, 0, none⟩ (.int .i64 ((q : Int) + 1))).cell? ⟨ib, 0, none⟩ = some (.int .i64 (s : Nat)) := by rw [hs]; exact blk_cell (cs := [.int .i64 (sumL d : Nat)]) ((hS1 ib n1.1.symm).trans j.i) rfl
  have k3 : (w.setCell ⟨kb, 0, none⟩ (.int .i64 ((q : Int) + 1))).cell? ⟨xb, 0, none⟩ = some (.pointer (some ⟨c, 0, none⟩)) := blk_cell (cs := [.pointer (some ⟨c, 0, none⟩)]) ((hS1 xb n1.2.1.symm).trans j.x) rfl
  have hck : c ≠ kb := fun e => by
    have h1 := (h.ap kb ((j.js kb).2 (.inl rfl))).1
    rw [← e] at h1; exact h1 h.ch.sc
  have k4 : (w.setCell ⟨kb, 0, none⟩ (.int .i64 ((q : Int) + 1))).cell? ⟨c, 5, none⟩ = some (.slice ta t tc) := by
    have h1 := h.ch.cell (j := 5) rfl
    rw [htv, ← ht] at h1
    unfold World.cell? at h1 ⊢
    rw [hS1 c hck]; exact h1
  have f2 : (w.setCell ⟨kb, 0, none⟩ (.int .i64 ((q : Int) + 1))).frozen? ⟨ib, 0, none⟩ = false := blk_free (cs := [.int .i64 (sumL d : Nat)]) ((hS1 ib n1.1.symm).trans j.i) 0
  have hw1 : IntKind.i64.wrap ((s : Int) + (t : Int)) = ((s + t : Nat) : Int) := by rw [IntWalk.i64_in _ (by omega)]; omega
  obtain ⟨st, hst⟩ : ∃ st, st = s + t := ⟨_, rfl⟩
  rw [← hst] at hw1
  have HFIN : Hid (∀ wz, (∀ b, wz.heap[b]? = (((w.setCell ⟨kb, 0, none⟩ (.int .i64 ((q : Int) + 1))).setCell ⟨ib, 0, none⟩ (.int .i64 (st : Int)))).heap[b]?) → wz.os = w.os → wz.tape = w.tape → wz.output = w.output → wz.heap.size = w.heap.size → (wz.cell? ⟨kb, 0, none⟩ = some (.int .i64 ((q : Int) + 1)) ∧ wz.cell? ⟨lb, 0, none⟩ = some (.int .i64 lim) ∧ wz.cell? ⟨ib, 0, none⟩ = some (.int .i64 (st : Int))) ∧ ∃ JS', J1 kb ib xb lb c n lim (d ++ [mems T n]) JS' wz ∧ Chg JS JS' w wz ∧ ∀ b, JS' b → b < wz.heap.size) := hid_of (fun wz hz z1 z2 z3 z4 => by
    have p1 : ((w.setCell ⟨kb, 0, none⟩ (.int .i64 ((q : Int) + 1))).setCell ⟨ib, 0, none⟩ (.int .i64 (st : Int))).heap[kb]? = some (.cells #[.int .i64 ((q : Int) + 1)] 3 (0, 0)) := by
      rw [set_other n1.1]; exact blk_setCell (cur := [.int .i64 (d.length : Nat)]) (k := 0) j.k
    have p2 : ((w.setCell ⟨kb, 0, none⟩ (.int .i64 ((q : Int) + 1))).setCell ⟨ib, 0, none⟩ (.int .i64 (st : Int))).heap[ib]? = some (.cells #[.int .i64 (st : Int)] 3 (0, 0)) := blk_setCell (cur := [.int .i64 (sumL d : Nat)]) (k := 0) ((hS1 ib n1.1.symm).trans j.i)
    have p3 : ∀ b, b ≠ kb → b ≠ ib → ((w.setCell ⟨kb, 0, none⟩ (.int .i64 ((q : Int) + 1))).setCell ⟨ib, 0, none⟩ (.int .i64 (st : Int))).heap[b]? = w.heap[b]? := fun b h1 h2 => by rw [set_other h2, set_other h1]
    have g1 := (hz kb).trans p1
    have g2 := (hz ib).trans p2
    have g3 := ((hz xb).trans (p3 xb n1.2.1.symm n1.2.2.2.1.symm)).trans j.x
    have g4 := ((hz lb).trans (p3 lb n1.2.2.1.symm n1.2.2.2.2.symm)).trans j.l
    refine ⟨⟨blk_cell (cs := [.int .i64 ((q : Int) + 1)]) g1 rfl, blk_cell (cs := [.int .i64 lim]) g4 rfl, blk_cell (cs := [.int .i64 (st : Int)]) g2 rfl⟩, JS, ⟨j.js, ?_, ?_, g3, g4, n1, ?_⟩, ⟨⟨z1, z2, z3, by omega, fun b hb hs2 => ?_⟩, fun b hb => .inl hb⟩, fun b hb => by have := (h.ap b hb).2; omega⟩
    · rw [List.length_append, List.length_singleton, ← hq]; exact g1
    · rw [sumL_snoc, hml, ← hs, ← ht, ← hst]; exact g2
    · rw [sumL_snoc, List.length_append, List.length_singleton, hml, Nat.add_mul]
      have := j.sm; omega
    · rw [hz b, p3 b (fun e => hs2 ((j.js b).2 (.inl e))) (fun e => hs2 ((j.js b).2 (.inr (.inl e))))])
  have HOK : Hid (okL lim (d ++ [mems T n]) = decide ((q : Int) + 1 ≤ lim)) := hid_of (by unfold okL; rw [List.length_append, List.length_singleton, ← hq]; rfl)
  have hqb : q ≤ 100000 := by omega
  have hstb : st ≤ 200000000 := by omega
  clear j h hml hTn htv hS1 hck n1 hq hs ht hst hd
  have hos : Hid ((w.setCell ⟨kb, 0, none⟩ (.int .i64 ((q : Int) + 1))).os = w.os ∧ (w.setCell ⟨kb, 0, none⟩ (.int .i64 ((q : Int) + 1))).tape = w.tape ∧ (w.setCell ⟨kb, 0, none⟩ (.int .i64 ((q : Int) + 1))).output = w.output ∧ (w.setCell ⟨kb, 0, none⟩ (.int .i64 ((q : Int) + 1))).heap.size = w.heap.size) := hid_of ⟨rfl, rfl, rfl, by simp⟩
  have u1 : (q : Int) + 1 ≤ lim ∨ ¬ (q : Int) + 1 ≤ lim := Classical.em _
  rcases u1 with u1 | u1
  · have HD : Hid (decide ((q : Int) + 1 ≤ lim) = true) := hid_of (decide_eq_true u1)
    have hd1 : decide ((q : Int) + 1 ≤ lim) = true := decide_eq_true u1
    have hd2 : decide ((st : Int) ≤ 2147483647) = true := decide_eq_true (by omega)
    go_enter Try.func54, Try.ntmps54
    go_wp2
    generalize w.setCell ⟨kb, 0, none⟩ (.int .i64 ((q : Int) + 1)) = w2 at k2 k3 k4 f2 hos HFIN ⊢
    go_still_tail 7, (by kernel_rfl)
    change wpList _ _ _ _ _ w2.drew
    go_wp2
    have m0 := HFIN.out ((w2.setCell ⟨ib, 0, none⟩ (.int .i64 (st : Int))).drew) (fun _ => rfl) hos.out.1 hos.out.2.1 hos.out.2.2.1 (by have := hos.out.2.2.2; simpa using this)
    have m1 := m0.1.1
    have m2 := m0.1.2.1
    have m3 := m0.1.2.2
    have HJ : Hid (∀ wz, wz.heap = (w2.setCell ⟨ib, 0, none⟩ (.int .i64 (st : Int))).drew.heap → wz.os = (w2.setCell ⟨ib, 0, none⟩ (.int .i64 (st : Int))).drew.os → wz.tape = (w2.setCell ⟨ib, 0, none⟩ (.int .i64 (st : Int))).drew.tape → wz.output = (w2.setCell ⟨ib, 0, none⟩ (.int .i64 (st : Int))).drew.output → ∃ JS', J1 kb ib xb lb c n lim (d ++ [mems T n]) JS' wz ∧ Chg JS JS' w wz ∧ ∀ b, JS' b → b < wz.heap.size) := hid_of (fun wz z1 z2 z3 z4 => (HFIN.out wz (fun b => by rw [z1]; rfl) (z2.trans hos.out.1) (z3.trans hos.out.2.1) (z4.trans hos.out.2.2.1) (by have := hos.out.2.2.2; rw [z1]; simpa using this)).2)
    clear m0 HFIN hos
    generalize (w2.setCell ⟨ib, 0, none⟩ (.int .i64 (st : Int))).drew = w3 at m1 m2 m3 HJ ⊢
    go_quiet (fail)
    go_wp2
    go_ret2
    refine ⟨?_, HJ.out _ rfl rfl rfl rfl⟩
    rw [HOK.out, HD.out]; rfl
  · have HD : Hid (decide ((q : Int) + 1 ≤ lim) = false) := hid_of (decide_eq_false u1)
    have hd1 : decide ((q : Int) + 1 ≤ lim) = false := decide_eq_false u1
    have hd2 : decide ((st : Int) ≤ 2147483647) = true := decide_eq_true (by omega)
    go_enter Try.func54, Try.ntmps54
    go_wp2
    generalize w.setCell ⟨kb, 0, none⟩ (.int .i64 ((q : Int) + 1)) = w2 at k2 k3 k4 f2 hos HFIN ⊢
    go_still_tail 7, (by kernel_rfl)
    change wpList _ _ _ _ _ w2.drew
    go_wp2
    have m0 := HFIN.out ((w2.setCell ⟨ib, 0, none⟩ (.int .i64 (st : Int))).drew) (fun _ => rfl) hos.out.1 hos.out.2.1 hos.out.2.2.1 (by have := hos.out.2.2.2; simpa using this)
    have m1 := m0.1.1
    have m2 := m0.1.2.1
    have m3 := m0.1.2.2
    have HJ : Hid (∀ wz, wz.heap = (w2.setCell ⟨ib, 0, none⟩ (.int .i64 (st : Int))).drew.heap → wz.os = (w2.setCell ⟨ib, 0, none⟩ (.int .i64 (st : Int))).drew.os → wz.tape = (w2.setCell ⟨ib, 0, none⟩ (.int .i64 (st : Int))).drew.tape → wz.output = (w2.setCell ⟨ib, 0, none⟩ (.int .i64 (st : Int))).drew.output → ∃ JS', J1 kb ib xb lb c n lim (d ++ [mems T n]) JS' wz ∧ Chg JS JS' w wz ∧ ∀ b, JS' b → b < wz.heap.size) := hid_of (fun wz z1 z2 z3 z4 => (HFIN.out wz (fun b => by rw [z1]; rfl) (z2.trans hos.out.1) (z3.trans hos.out.2.1) (z4.trans hos.out.2.2.1) (by have := hos.out.2.2.2; rw [z1]; simpa using this)).2)
    clear m0 HFIN hos
    generalize (w2.setCell ⟨ib, 0, none⟩ (.int .i64 (st : Int))).drew = w3 at m1 m2 m3 HJ ⊢
    go_quiet (fail)
    go_wp2
    go_ret2
    refine ⟨?_, HJ.out _ rfl rfl rfl rfl⟩
    rw [HOK.out, HD.out]; rfl
end Go.Proofs.Ytedohggbpmcehaa
