/- Texts in one: LatEnc, WireRdB, WireRdC, PrRow, SxRow, LatRow, LatWk, LatWnm, LatDep, LatAll, LatFin, LatStr, LatRul, LatEq, LatChn, LatMps. -/
import Derived.Test.YtdmonbcinlmljaaMgNA
import Derived.Laws.BytesArg
import Derived.Laws.DeepNot64
import Derived.Deep.Slices
import Derived.Shelf.Abstract
import Derived.Maps.OwnOps
import Derived.Maps.Views
import Derived.Carry
import Derived.StringKeys
set_option linter.unusedVariables false
set_option linter.unusedSimpArgs false
/- Encodings of descriptions, and that none begins another. Plain mathematics. -/
namespace Go.Proofs.Ytdmonbcinlmljaa
open Go.RowKit

def txE (x : Str) : List Int := Wr.enc x.length ++ Wr.strBytes (ba x)
def nsE (ns : List Str) : List Int := Wr.enc ns.length ++ ns.flatMap txE
def ruE1 (r : Gr) : List Int := nsE r.1 ++ txE r.2
def rsE (rs : List Gr) : List Int := Wr.enc rs.length ++ rs.flatMap ruE1
mutual
/-- The encoding of a description. -/
def encL : Lat → List Int
  | ⟨k, lo, hi, ns, ps, rs⟩ => Wr.enc k.toNat ++ (if k = 2 ∨ k = 3 then Wr.enc (Wr.zig lo) ++ Wr.enc (Wr.zig hi) else if k = 4 ∨ k = 8 then nsE ns else if k = 5 then nsE ns ++ encLs ps else if k = 6 then Wr.enc ns.length ++ encPs ns ps else if k = 7 then encLs ps else if k = 10 then nsE ns ++ rsE rs else [])
def encLs : List Lat → List Int
  | [] => []
  | p :: ps => encL p ++ encLs ps
def encPs : List Str → List Lat → List Int
  | n :: ns, p :: ps => txE n ++ encL p ++ encPs ns ps
  | [], _ => []
  | _ :: _, [] => []
end
theorem encPs_cons (n : Str) (ns : List Str) (p : Lat) (ps : List Lat) : encPs (n :: ns) (p :: ps) = txE n ++ encL p ++ encPs ns ps := by rw [encPs]
theorem encLs_cons (p : Lat) (ps : List Lat) : encLs (p :: ps) = encL p ++ encLs ps := by rw [encLs]
theorem encLs_nil : encLs [] = [] := by rw [encLs]
theorem encPs_nil (ps : List Lat) : encPs [] ps = [] := by cases ps <;> rw [encPs]
theorem encLs_map : ∀ ps : List Lat, encLs ps = ps.flatMap encL
  | [] => by rw [encLs]; rfl
  | p :: ps => by rw [encLs, encLs_map ps]; rfl

theorem strB_length (x : Str) : (Wr.strBytes (ba x)).length = x.length := by simp [Wr.strBytes, ba]
theorem strB_inj {x y : Str} (h : Wr.strBytes (ba x) = Wr.strBytes (ba y)) : x = y := by
  have hx : ∀ z : Str, (Wr.strBytes (ba z)).map (fun i : Int => UInt8.ofNat i.toNat) = z := fun z => by
    simp only [Wr.strBytes, ba, List.map_map]
    exact (List.map_congr_left (fun a _ => by simp)).trans (List.map_id z)
  rw [← hx x, ← hx y, h]
theorem enc_cut {n m : Nat} {s t : List Int} (hn : n < 18446744073709551616) (hm : m < 18446744073709551616) (h : Wr.enc n ++ s = Wr.enc m ++ t) : n = m ∧ s = t := by
  have h1 := Wr.dec_enc n s hn
  rw [h, Wr.dec_enc m t hm] at h1
  have e : n = m := by simp at h1; exact h1.1.symm
  subst e
  exact ⟨rfl, List.append_cancel_left h⟩
theorem tx_cut {x y : Str} {s t : List Int} (hx : x.length < 18446744073709551616) (hy : y.length < 18446744073709551616) (h : txE x ++ s = txE y ++ t) : x = y ∧ s = t := by
  unfold txE at h
  rw [List.append_assoc, List.append_assoc] at h
  obtain ⟨h1, h2⟩ := enc_cut hx hy h
  obtain ⟨h3, h4⟩ := List.append_inj h2 (by rw [strB_length, strB_length, h1])
  exact ⟨strB_inj h3, h4⟩
/-- Lists of the same length, part by part. -/
theorem flat_cut {α : Type} {f : α → List Int} {ok : α → Prop} (hc : ∀ x y s t, ok x → ok y → f x ++ s = f y ++ t → x = y ∧ s = t) : ∀ (a b : List α) (s t : List Int), a.length = b.length → (∀ x ∈ a, ok x) → (∀ x ∈ b, ok x) → a.flatMap f ++ s = b.flatMap f ++ t → a = b ∧ s = t
  | [], [], s, t, _, _, _, h => ⟨rfl, by simpa using h⟩
  | [], _ :: _, _, _, hl, _, _, _ => by simp at hl
  | _ :: _, [], _, _, hl, _, _, _ => by simp at hl
  | x :: a, y :: b, s, t, hl, ha, hb, h => by
    rw [List.flatMap_cons, List.flatMap_cons, List.append_assoc, List.append_assoc] at h
    obtain ⟨h1, h2⟩ := hc x y _ _ (ha x (by simp)) (hb y (by simp)) h
    obtain ⟨h3, h4⟩ := flat_cut hc a b s t (by simpa using hl) (fun z hz => ha z (by simp [hz])) (fun z hz => hb z (by simp [hz])) h2
    exact ⟨by rw [h1, h3], h4⟩
abbrev Sm (l : List Str) : Prop := l.length ≤ 32 ∧ ∀ x ∈ l, x.length ≤ 16
theorem ns_cut {a b : List Str} {s t : List Int} (ha : Sm a) (hb : Sm b) (h : nsE a ++ s = nsE b ++ t) : a = b ∧ s = t := by
  unfold nsE at h
  rw [List.append_assoc, List.append_assoc] at h
  obtain ⟨h1, h2⟩ := enc_cut (by have := ha.1; omega) (by have := hb.1; omega) h
  exact flat_cut (ok := fun x => x.length ≤ 16) (fun x y s t hx hy => tx_cut (by omega) (by omega)) a b s t h1 ha.2 hb.2 h2
abbrev SmR (r : Gr) : Prop := Sm r.1 ∧ r.2.length ≤ 16
theorem ru_cut {a b : Gr} {s t : List Int} (ha : SmR a) (hb : SmR b) (h : ruE1 a ++ s = ruE1 b ++ t) : a = b ∧ s = t := by
  unfold ruE1 at h
  rw [List.append_assoc, List.append_assoc] at h
  obtain ⟨h1, h2⟩ := ns_cut ha.1 hb.1 h
  obtain ⟨h3, h4⟩ := tx_cut (by have := ha.2; omega) (by have := hb.2; omega) h2
  exact ⟨Prod.ext h1 h3, h4⟩
theorem rs_cut {a b : List Gr} {s t : List Int} (la : a.length ≤ 32) (lb : b.length ≤ 32) (ha : ∀ r ∈ a, SmR r) (hb : ∀ r ∈ b, SmR r) (h : rsE a ++ s = rsE b ++ t) : a = b ∧ s = t := by
  unfold rsE at h
  rw [List.append_assoc, List.append_assoc] at h
  obtain ⟨h1, h2⟩ := enc_cut (by omega) (by omega) h
  exact flat_cut (ok := SmR) (fun x y s t hx hy => ru_cut hx hy) a b s t h1 ha hb h2
theorem zig_inj {a b : Int} (h : Wr.zig a = Wr.zig b) : a = b := by unfold Wr.zig at h; split at h <;> split at h <;> omega

/-- What a node without an error is. -/
structure NodeF (t : Lat) : Prop where
  shape : shapeB t = true
  nl : t.ns.length ≤ 32
  pl : t.k = 6 → t.ns.length ≤ 8
  rl : t.rs.length ≤ 32
  nm : ∀ x ∈ t.ns, x.length ≤ 16
  ru : ∀ r ∈ t.rs, SmR r
  lo : -1000000000 ≤ t.lo ∧ t.lo ≤ 1000000000
  hi : -1000000000 ≤ t.hi ∧ t.hi ≤ 1000000000
theorem sub_lenS : ∀ (A B : List Str), A.Nodup → (∀ x ∈ A, x ∈ B) → A.length ≤ B.length := by
  intro A
  induction A with
  | nil => intro B _ _; simp
  | cons a A ih =>
    intro B hA hB
    have ⟨h1, h2⟩ := List.nodup_cons.1 hA
    have h3 := ih (B.erase a) h2 (fun x hx => (List.mem_erase_of_ne (by rintro rfl; exact h1 hx)).2 (hB x (List.mem_cons_of_mem _ hx)))
    have h4 := List.length_erase_of_mem (hB a List.mem_cons_self)
    have h5 : 0 < B.length := List.length_pos_of_mem (hB a List.mem_cons_self)
    simp only [List.length_cons]
    omega
theorem name_16 {x : Str} (h : nameB x = true) : x.length ≤ 16 := by
  have := ((isName_iff _).1 h).2.1
  rw [strBytes_length] at this
  simpa [ba, ByteArray.size] using this
theorem node_f {t : Lat} (h : nodeE t = 0) : NodeF t := by
  have hs := node_shape h
  unfold nodeE at h
  rw [if_neg (by rw [hs]; simp)] at h
  split at h
  · omega
  · rename_i h1
    split at h
    · omega
    · rename_i h2
      split at h
      · omega
      · rename_i h3
        have h2' : (namesB t && rulesB t.ns t.rs) = true := by simpa using h2
        rw [Bool.and_eq_true] at h2'
        obtain ⟨hn, hr⟩ := h2'
        have hnl : t.ns.length ≤ limL t.k ∧ t.rs.length ≤ 32 := by omega
        have hlim : limL t.k ≤ 32 ∧ (t.k = 6 → limL t.k = 8) := by unfold limL; split; exact ⟨by omega, fun _ => rfl⟩; split <;> exact ⟨by omega, fun e => by omega⟩
        have hnm : ∀ x ∈ t.ns, x.length ≤ 16 := fun x hx => by
          unfold namesB at hn
          rw [Bool.and_eq_true, Bool.and_eq_true] at hn
          exact name_16 (List.all_eq_true.1 hn.1.1 x hx)
        refine ⟨hs, by omega, fun e => by have := hlim.2 e; omega, hnl.2, hnm, fun r hr2 => ?_, by omega, by omega⟩
        have h4 := List.all_eq_true.1 hr r hr2
        unfold ruleB at h4
        rw [Bool.and_eq_true, Bool.and_eq_true] at h4
        have hm : ∀ x ∈ r.1 ++ [r.2], x ∈ t.ns := fun x hx => of_decide_eq_true (List.all_eq_true.1 h4.2 x hx)
        have hss : SS r.1 := of_decide_eq_true h4.1.2
        have hle := sub_lenS r.1 t.ns (ss_nodup hss) (fun x hx => hm x (List.mem_append_left _ hx))
        exact ⟨⟨by omega, fun x hx => hnm x (hm x (List.mem_append_left _ hx))⟩, hnm r.2 (hm r.2 (by simp))⟩
theorem NodeF.kk {t : Lat} (h : NodeF t) : 1 ≤ t.k ∧ t.k ≤ 10 := shape_k h.shape
theorem Okay.node {t : Lat} (h : Okay t) : NodeF t := by cases h with | mk h0 _ => exact node_f h0
theorem Okay.part {t : Lat} (h : Okay t) : ∀ p ∈ t.ps, Okay p := by cases h with | mk _ h1 => exact h1

theorem encLs_cut : ∀ (ps qs : List Lat) (s t : List Int), ps.length = qs.length → (∀ p ∈ ps, ∀ b, Okay b → ∀ s t, encL p ++ s = encL b ++ t → p = b ∧ s = t) → (∀ q ∈ qs, Okay q) → encLs ps ++ s = encLs qs ++ t → ps = qs ∧ s = t
  | [], [], s, t, _, _, _, h => ⟨rfl, by rw [encLs_nil] at h; simpa using h⟩
  | [], _ :: _, _, _, hl, _, _, _ => by simp at hl
  | _ :: _, [], _, _, hl, _, _, _ => by simp at hl
  | p :: ps, q :: qs, s, t, hl, ha, hb, h => by
    rw [encLs_cons, encLs_cons, List.append_assoc, List.append_assoc] at h
    obtain ⟨h1, h2⟩ := ha p (by simp) q (hb q (by simp)) _ _ h
    obtain ⟨h3, h4⟩ := encLs_cut ps qs s t (by simpa using hl) (fun z hz => ha z (by simp [hz])) (fun z hz => hb z (by simp [hz])) h2
    exact ⟨by rw [h1, h3], h4⟩
theorem encPs_cut : ∀ (ns ms : List Str) (ps qs : List Lat) (s t : List Int), ns.length = ms.length → ps.length = ns.length → qs.length = ms.length → (∀ x ∈ ns, x.length ≤ 16) → (∀ x ∈ ms, x.length ≤ 16) → (∀ p ∈ ps, ∀ b, Okay b → ∀ s t, encL p ++ s = encL b ++ t → p = b ∧ s = t) → (∀ q ∈ qs, Okay q) → encPs ns ps ++ s = encPs ms qs ++ t → (ns = ms ∧ ps = qs) ∧ s = t
  | [], [], [], [], s, t, _, _, _, _, _, _, _, h => ⟨⟨rfl, rfl⟩, by rw [encPs_nil] at h; simpa using h⟩
  | [], _ :: _, _, _, _, _, hl, _, _, _, _, _, _, _ => by simp at hl
  | _ :: _, [], _, _, _, _, hl, _, _, _, _, _, _, _ => by simp at hl
  | [], [], _ :: _, _, _, _, _, hl, _, _, _, _, _, _ => by simp at hl
  | [], [], [], _ :: _, _, _, _, _, hl, _, _, _, _, _ => by simp at hl
  | _ :: _, _ :: _, [], _, _, _, _, hl, _, _, _, _, _, _ => by simp at hl
  | _ :: _, _ :: _, _ :: _, [], _, _, _, _, hl, _, _, _, _, _ => by simp at hl
  | n :: ns, m :: ms, p :: ps, q :: qs, s, t, h0, h1, h2, hn, hm, ha, hb, h => by
    rw [encPs_cons, encPs_cons, List.append_assoc, List.append_assoc, List.append_assoc, List.append_assoc] at h
    obtain ⟨e1, h3⟩ := tx_cut (by have := hn n (by simp); omega) (by have := hm m (by simp); omega) h
    obtain ⟨e2, h4⟩ := ha p (by simp) q (hb q (by simp)) _ _ h3
    obtain ⟨⟨e3, e4⟩, e5⟩ := encPs_cut ns ms ps qs s t (by simpa using h0) (by simpa using h1) (by simpa using h2) (fun z hz => hn z (by simp [hz])) (fun z hz => hm z (by simp [hz])) (fun z hz => ha z (by simp [hz])) (fun z hz => hb z (by simp [hz])) h4
    exact ⟨⟨by rw [e1, e3], by rw [e2, e4]⟩, e5⟩
/-- No encoding of a description without an error begins another one's. -/
theorem encL_cut : ∀ a, Okay a → ∀ b, Okay b → ∀ s t, encL a ++ s = encL b ++ t → a = b ∧ s = t := by
  refine lat_ind ?_
  rintro k lo hi ns ps rs ih ha ⟨k2, lo2, hi2, ns2, ps2, rs2⟩ hb s t h
  have fa := ha.node
  have fb := hb.node
  have pa := ha.part
  have pb := hb.part
  have ka := fa.kk
  have kb := fb.kk
  have sa := fa.shape
  have sb := fb.shape
  have loa := fa.lo
  have lob := fb.lo
  have hia := fa.hi
  have hib := fb.hi
  have nla := fa.nl
  have nlb := fb.nl
  have nma := fa.nm
  have nmb := fb.nm
  have rla := fa.rl
  have rlb := fb.rl
  have rua := fa.ru
  have rub := fb.ru
  simp only [Lat.k, Lat.lo, Lat.hi, Lat.ns, Lat.ps, Lat.rs] at ka kb loa lob hia hib nla nlb nma nmb rla rlb rua rub pa pb
  rw [encL, encL, List.append_assoc, List.append_assoc] at h
  obtain ⟨h1, h2⟩ := enc_cut (by omega) (by omega) h
  have e : k2 = k := by omega
  subst e
  unfold shapeB at sa sb
  simp only [Lat.k, Lat.lo, Lat.hi, Lat.ns, Lat.ps, Lat.rs] at sa sb
  have IH : ∀ p ∈ ps, ∀ b, Okay b → ∀ s t, encL p ++ s = encL b ++ t → p = b ∧ s = t := fun p hp => ih p hp (pa p hp)
  have z64 : ∀ n : Int, -1000000000 ≤ n ∧ n ≤ 1000000000 → Wr.zig n < 18446744073709551616 := fun n hn => Wr.zig_lt n (by omega) (by omega)
  rcases kinds k2 with rfl | rfl | rfl | rfl | rfl | rfl | rfl | rfl | rfl | rfl | hx
  case inr.inr.inr.inr.inr.inr.inr.inr.inr.inr => omega
  case inl =>
    simp at sa sb h2
    have sa := of_decide_eq_true sa
    have sb := of_decide_eq_true sb
    obtain ⟨a1, a2, a3, a4, a5⟩ := sa
    obtain ⟨b1, b2, b3, b4, b5⟩ := sb
    exact ⟨by rw [a1, a2, a3, a4, a5, b1, b2, b3, b4, b5], h2⟩
  case inr.inl =>
    simp at sa sb h2
    have sa := of_decide_eq_true sa
    have sb := of_decide_eq_true sb
    obtain ⟨a1, a2, a3⟩ := sa
    obtain ⟨b1, b2, b3⟩ := sb
    obtain ⟨e1, h3⟩ := enc_cut (z64 _ loa) (z64 _ lob) h2
    obtain ⟨e2, h4⟩ := enc_cut (z64 _ hia) (z64 _ hib) h3
    exact ⟨by rw [zig_inj e1, zig_inj e2, a1, a2, a3, b1, b2, b3], h4⟩
  case inr.inr.inl =>
    simp at sa sb h2
    have sa := of_decide_eq_true sa
    have sb := of_decide_eq_true sb
    obtain ⟨a1, a2, a3⟩ := sa
    obtain ⟨b1, b2, b3⟩ := sb
    obtain ⟨e1, h3⟩ := enc_cut (z64 _ loa) (z64 _ lob) h2
    obtain ⟨e2, h4⟩ := enc_cut (z64 _ hia) (z64 _ hib) h3
    exact ⟨by rw [zig_inj e1, zig_inj e2, a1, a2, a3, b1, b2, b3], h4⟩
  case inr.inr.inr.inl =>
    simp at sa sb h2
    have sa := of_decide_eq_true sa
    have sb := of_decide_eq_true sb
    obtain ⟨a1, a2, a3, a4⟩ := sa
    obtain ⟨b1, b2, b3, b4⟩ := sb
    obtain ⟨e1, h3⟩ := ns_cut ⟨nla, nma⟩ ⟨nlb, nmb⟩ h2
    exact ⟨by rw [e1, a1, a2, a3, a4, b1, b2, b3, b4], h3⟩
  case inr.inr.inr.inr.inl =>
    simp at sa sb h2
    have sa := of_decide_eq_true sa
    have sb := of_decide_eq_true sb
    obtain ⟨a1, a2, a3, a4⟩ := sa
    obtain ⟨b1, b2, b3, b4⟩ := sb
    obtain ⟨e1, h3⟩ := ns_cut ⟨nla, nma⟩ ⟨nlb, nmb⟩ h2
    obtain ⟨e2, h4⟩ := encLs_cut _ _ _ _ (by omega) IH pb h3
    exact ⟨by rw [e1, e2, a1, a2, a3, b1, b2, b3], h4⟩
  case inr.inr.inr.inr.inr.inl =>
    simp at sa sb h2
    have sa := of_decide_eq_true sa
    have sb := of_decide_eq_true sb
    obtain ⟨a1, a2, a3, a4, a5⟩ := sa
    obtain ⟨b1, b2, b3, b4, b5⟩ := sb
    obtain ⟨e0, h3⟩ := enc_cut (by omega) (by omega) h2
    obtain ⟨⟨e1, e2⟩, h4⟩ := encPs_cut ns ns2 ps ps2 _ _ e0 a4 b4 nma nmb IH pb h3
    exact ⟨by rw [e1, e2, a1, a2, a3, b1, b2, b3], h4⟩
  case inr.inr.inr.inr.inr.inr.inl =>
    simp at sa sb h2
    have sa := of_decide_eq_true sa
    have sb := of_decide_eq_true sb
    obtain ⟨a1, a2, a3, a4, a5⟩ := sa
    obtain ⟨b1, b2, b3, b4, b5⟩ := sb
    obtain ⟨e2, h4⟩ := encLs_cut _ _ _ _ (by omega) IH pb h2
    exact ⟨by rw [e2, a1, a2, a3, a5, b1, b2, b3, b5], h4⟩
  case inr.inr.inr.inr.inr.inr.inr.inl =>
    simp at sa sb h2
    have sa := of_decide_eq_true sa
    have sb := of_decide_eq_true sb
    obtain ⟨a1, a2, a3, a4⟩ := sa
    obtain ⟨b1, b2, b3, b4⟩ := sb
    obtain ⟨e1, h3⟩ := ns_cut ⟨nla, nma⟩ ⟨nlb, nmb⟩ h2
    exact ⟨by rw [e1, a1, a2, a3, a4, b1, b2, b3, b4], h3⟩
  case inr.inr.inr.inr.inr.inr.inr.inr.inl =>
    simp at sa sb h2
    have sa := of_decide_eq_true sa
    have sb := of_decide_eq_true sb
    obtain ⟨a1, a2, a3, a4, a5⟩ := sa
    obtain ⟨b1, b2, b3, b4, b5⟩ := sb
    exact ⟨by rw [a1, a2, a3, a4, a5, b1, b2, b3, b4, b5], h2⟩
  case inr.inr.inr.inr.inr.inr.inr.inr.inr.inl =>
    simp at sa sb h2
    have sa := of_decide_eq_true sa
    have sb := of_decide_eq_true sb
    obtain ⟨a1, a2, a3, a4⟩ := sa
    obtain ⟨b1, b2, b3, b4⟩ := sb
    obtain ⟨e1, h3⟩ := ns_cut ⟨nla, nma⟩ ⟨nlb, nmb⟩ h2
    obtain ⟨e2, h4⟩ := rs_cut rla rlb rua rub h3
    exact ⟨by rw [e1, e2, a1, a2, a3, b1, b2, b3], h4⟩

/-- How long an encoding is. -/
theorem txE_len {x : Str} (h : x.length ≤ 16) : (txE x).length ≤ 26 := by
  unfold txE
  have := Wr.enc_length_10 x.length (by omega)
  rw [List.length_append, strB_length]; omega
theorem flat_len {α : Type} {f : α → List Int} {m : Nat} : ∀ l : List α, (∀ x ∈ l, (f x).length ≤ m) → (l.flatMap f).length ≤ l.length * m
  | [], _ => by simp
  | x :: l, h => by
    rw [List.flatMap_cons, List.length_append, List.length_cons, Nat.add_mul]
    have h1 := h x (by simp)
    have h2 := flat_len l fun y hy => h y (by simp [hy])
    omega
theorem nsE_len {l : List Str} (h : Sm l) : (nsE l).length ≤ 842 := by
  unfold nsE
  have h1 := Wr.enc_length_10 l.length (by have := h.1; omega)
  have h2 := flat_len (f := txE) (m := 26) l fun x hx => txE_len (h.2 x hx)
  have h3 : l.length * 26 ≤ 32 * 26 := Nat.mul_le_mul_right _ h.1
  rw [List.length_append]; omega
theorem rsE_len {l : List Gr} (hl : l.length ≤ 32) (h : ∀ r ∈ l, SmR r) : (rsE l).length ≤ 27800 := by
  unfold rsE
  have h1 := Wr.enc_length_10 l.length (by omega)
  have h2 := flat_len (f := ruE1) (m := 868) l fun r hr => by
    unfold ruE1
    have a := nsE_len (h r hr).1
    have b := txE_len (h r hr).2
    rw [List.length_append]; omega
  have h3 : l.length * 868 ≤ 32 * 868 := Nat.mul_le_mul_right _ hl
  rw [List.length_append]; omega
theorem depth_mem : ∀ (ps : List Lat) (p : Lat), p ∈ ps → depthL p ≤ depthsL ps
  | q :: ps, p, h => by
    rw [depthsL]
    rcases List.mem_cons.1 h with rfl | h
    · omega
    · have := depth_mem ps p h; omega
theorem encPs_len {m : Nat} : ∀ (ns : List Str) (ps : List Lat), (∀ x ∈ ns, x.length ≤ 16) → (∀ p ∈ ps, (encL p).length ≤ m) → (encPs ns ps).length ≤ ns.length * (26 + m)
  | [], ps, _, _ => by rw [encPs_nil]; simp
  | _ :: _, [], _, _ => by rw [encPs]; simp
  | n :: ns, p :: ps, hn, hp => by
    rw [encPs_cons, List.length_append, List.length_append, List.length_cons, Nat.add_mul]
    have h1 := txE_len (hn n (by simp))
    have h2 := hp p (by simp)
    have h3 := encPs_len ns ps (fun x hx => hn x (by simp [hx])) (fun x hx => hp x (by simp [hx]))
    omega
theorem encL_len : ∀ t, Okay t → (encL t).length ≤ 30000 * 10 ^ depthL t := by
  refine lat_ind ?_
  intro k lo hi ns ps rs ih ha
  have fa := ha.node
  have pa := ha.part
  have ka := fa.kk
  have sa := fa.shape
  have loa := fa.lo
  have hia := fa.hi
  have nla := fa.nl
  have pla := fa.pl
  have nma := fa.nm
  have rla := fa.rl
  have rua := fa.ru
  simp only [Lat.k, Lat.lo, Lat.hi, Lat.ns, Lat.ps, Lat.rs] at ka loa hia nla nma rla rua pa pla
  unfold shapeB at sa
  simp only [Lat.k, Lat.lo, Lat.hi, Lat.ns, Lat.ps, Lat.rs] at sa
  rw [encL, depthL, Nat.pow_succ]
  obtain ⟨D, hD⟩ : ∃ D, D = 10 ^ depthsL ps := ⟨_, rfl⟩
  have hD1 : 1 ≤ D := by rw [hD]; exact Nat.pos_of_ne_zero (by simp)
  have hP : ∀ p ∈ ps, (encL p).length ≤ 30000 * D := fun p hp => by
    have := ih p hp (pa p hp)
    have h2 : 10 ^ depthL p ≤ D := by rw [hD]; exact Nat.pow_le_pow_right (by omega) (depth_mem ps p hp)
    have h3 := Nat.mul_le_mul_left 30000 h2
    omega
  rw [← hD]
  have h0 := Wr.enc_length_10 k.toNat (by omega)
  have h1 := Wr.enc_length_10 _ (Wr.zig_lt lo (by omega) (by omega))
  have h2 := Wr.enc_length_10 _ (Wr.zig_lt hi (by omega) (by omega))
  have h3 := nsE_len ⟨nla, nma⟩
  have h4 := rsE_len rla rua
  have h5 := Wr.enc_length_10 ns.length (by omega)
  have h6 : (encLs ps).length ≤ ps.length * (30000 * D) := by rw [encLs_map]; exact flat_len ps hP
  have h7 := encPs_len ns ps nma hP
  have p5 : k = 5 → ps.length = 1 := fun e => by
    subst e
    simp at sa
    exact (of_decide_eq_true sa).2.2.2
  have p7 : k = 7 → ps.length = 2 := fun e => by
    subst e
    simp at sa
    exact (of_decide_eq_true sa).2.2.2.1
  rw [List.length_append]
  split
  · rw [List.length_append]; omega
  · split
    · omega
    · split
      · rename_i e
        rw [p5 e] at h6
        rw [List.length_append]; omega
      · split
        · rename_i e
          have h8 : ns.length * (26 + 30000 * D) ≤ 8 * (26 + 30000 * D) := Nat.mul_le_mul_right _ (pla e)
          rw [List.length_append]; omega
        · split
          · rename_i e
            rw [p7 e] at h6
            omega
          · split
            · rw [List.length_append]; omega
            · simp; omega
end Go.Proofs.Ytdmonbcinlmljaa

/- More contracts of the Reader of package wire. No condition but bounds on sizes. -/
namespace Go.Proofs.Ytdmonbcinlmljaa.Wr
open Go.RowKit

section
variable {P : Program} (w : World)

theorem run_str (src dst e : TypeId) (hs : P.underlying src = some (.slice e)) (he : P.underlying e = some (.int .u8)) (hd : P.underlying dst = some .string) (ao : Option Addr) (l : List Int) (cap : Nat)
    (hpos : 0 < l.length → ∃ ad, ao = some ad ∧ ∀ j v, (bs l)[j]? = some v → w.cell? (ad.add j) = some v) :
    (convert src dst (.slice ao l.length cap)).run P w = .ok (.string (strOfNums l)) w := by
  cases ao with
  | none =>
    obtain rfl : l = [] := by
      cases l with
      | nil => rfl
      | cons x r => obtain ⟨ad, h, _⟩ := hpos (by simp); cases h
    exact run_convert_bytes_nil w src e hs he 0 cap dst hd
  | some ad =>
    have hl : (loadCells ad l.length).run P w = .ok (l.map (Value.int .u8)).toArray w := by
      have := run_loadCells_list (P := P) w ad (bs l) (fun j v hj => by
        have h0 : 0 < l.length := by
          have := (List.getElem?_eq_some_iff.1 hj).1
          simp [bs] at this; omega
        obtain ⟨ad', h1, h2⟩ := hpos h0
        cases h1
        exact h2 j v hj)
      simpa [bs] using this
    rw [run_convert_bytes_string w src dst e _ l.length cap hs he hd, run_bytesToString w _ l.length cap l hl, foldl_push_bytes]
    simp [strOfNums, ByteArray.empty, ByteArray.emptyWithCapacity]
    rfl

theorem wp_str {o : Oper} {a : Act} {K : Act → World → Prop} {Q : Exit → Act → World → Prop} (src dst : TypeId) (x : Operand) (ho : o.op = .convert src dst x) (e : TypeId)
    (hs : P.underlying src = some (.slice e)) (he : P.underlying e = some (.int .u8)) (hd : P.underlying dst = some .string) (ao : Option Addr) (l : List Int) (cap : Nat) (hx : a.eval x = .slice ao l.length cap)
    (hpos : 0 < l.length → ∃ ad, ao = some ad ∧ ∀ j v, (bs l)[j]? = some v → w.cell? (ad.add j) = some v) (h : K (a.put o.dst (.string (strOfNums l))) w) : Oper.wp P o a w K Q := by
  have hr := run_str (P := P) w src dst e hs he hd ao l cap hpos
  unfold Oper.wp execOp
  simp only [ho, hx, Sem.run_bind, hr, Result.andThen_ok, Sem.run_pure]
  exact h

theorem wpList_str {ops : Array Oper} {rest : List Oper} {o : Oper} {a : Act} {Q : Exit → Act → World → Prop} (hgd : o.guard = none) (src dst : TypeId) (x : Operand) (ho : o.op = .convert src dst x) (e : TypeId)
    (hs : P.underlying src = some (.slice e)) (he : P.underlying e = some (.int .u8)) (hd : P.underlying dst = some .string) (ao : Option Addr) (l : List Int) (cap : Nat) (hx : a.eval x = .slice ao l.length cap)
    (hpos : 0 < l.length → ∃ ad, ao = some ad ∧ ∀ j v, (bs l)[j]? = some v → w.cell? (ad.add j) = some v) (h : wpList P ops Q rest (a.put o.dst (.string (strOfNums l))) w) : wpList P ops Q (o :: rest) a w :=
  wpList_plain hgd fun _ hK => wp_str w src dst x ho e hs he hd ao l cap hx hpos (hK _ _ h)
theorem wpList_str_n {ops : Array Oper} {rest : List Oper} {o : Oper} {a : Act} {Q : Exit → Act → World → Prop} (hgd : o.guard = none) (src dst : TypeId) (x : Operand) (ho : o.op = .convert src dst x) (e : TypeId)
    (hs : P.underlying src = some (.slice e)) (he : P.underlying e = some (.int .u8)) (hd : P.underlying dst = some .string) (ao : Option Addr) (l : List Int) (n cap : Nat) (hn : l.length = n) (hx : a.eval x = .slice ao n cap)
    (hpos : 0 < l.length → ∃ ad, ao = some ad ∧ ∀ j v, (bs l)[j]? = some v → w.cell? (ad.add j) = some v) (h : wpList P ops Q rest (a.put o.dst (.string (strOfNums l))) w) : wpList P ops Q (o :: rest) a w :=
  wpList_str w hgd src dst x ho e hs he hd ao l cap (by rw [hn]; exact hx) hpos h
end

theorem ret_i64 {a b : Int} (h : a = b) : Ending.returned (.int .i64 a) = Ending.returned (.int .i64 b) := by rw [h]

/-- Back from zigzag. -/
def unzig (n : Nat) : Int := if n % 2 = 0 then ((n / 2 : Nat) : Int) else -((n / 2 : Nat) : Int) - 1
theorem unzig_zig (n : Int) : unzig (zig n) = n := by
  unfold unzig zig
  by_cases h : 0 ≤ n
  · rw [if_pos h, if_pos (by omega)]; omega
  · rw [if_neg h, if_neg (by omega)]; omega

set_option maxHeartbeats 400000 in
theorem rint_ok (b g off last n k : Nat) (d : List Int) (w : World) (h : Rst w b g d off last 0) (hd : dec (d.drop off) = some (n, k)) :
    Calls Try.prog 56 #[.pointer (some ⟨b, 0, none⟩)] w fun e w' => e = .returned (.int .i64 (unzig n)) ∧ RTo w w' b g d (off + k) off 0 := by
  have hb := h.dec_bound hd
  have hb4 := hb.2.2.2
  have HC := hid_of (ruint_ok b g off last n k d w h hd)
  have e1 := u64_and_nat n 1 hb4 (by omega)
  rw [nat_mask1, show ((1 : Nat) : Int) = 1 from rfl] at e1
  clear hb hd h
  have e2 : bits .xor .i64 (-1) ((n : Int) / 2) = -1 - ((n : Int) / 2) := by
    have := i64_not (n / 2) (by omega)
    rw [show ((n / 2 : Nat) : Int) = (n : Int) / 2 by omega] at this
    exact this
  by_cases h2 : n % 2 = 0
  · go_enter Try.func56, Try.ntmps56
    go_wp2_with (go_at_call 54; refine HC.out.mono ?_; rintro e w1 ⟨rfl, h1⟩; have R := hid_of h1; clear h1)
    go_ret
    exact ⟨ret_i64 (by unfold unzig; rw [if_pos h2]; omega), R.out⟩
  · go_enter Try.func56, Try.ntmps56
    go_wp2_with (go_at_call 54; refine HC.out.mono ?_; rintro e w1 ⟨rfl, h1⟩; have R := hid_of h1; clear h1)
    go_ret
    exact ⟨ret_i64 (by unfold unzig; rw [if_neg h2]; omega), R.out⟩

set_option maxHeartbeats 400000 in
theorem rint_zero (b g off off' last last' : Nat) (d : List Int) (w : World)
    (HC : Hid (Calls Try.prog 54 #[.pointer (some ⟨b, 0, none⟩)] w fun e w' => e = .returned (.int .u64 0) ∧ RTo w w' b g d off' last' 2)) :
    Calls Try.prog 56 #[.pointer (some ⟨b, 0, none⟩)] w fun e w' => e = .returned (.int .i64 0) ∧ RTo w w' b g d off' last' 2 := by
  have e1 : bits .and .u64 0 1 = 0 := by decide
  go_enter Try.func56, Try.ntmps56
  go_wp2_with (go_at_call 54; refine HC.out.mono ?_; rintro e w1 ⟨rfl, h1⟩; have R := hid_of h1; clear h1)
  go_ret
  exact ⟨rfl, R.out⟩
theorem rint_bad (b g off last : Nat) (d : List Int) (w : World) (h : Rst w b g d off last 0) (hd : dec (d.drop off) = none) :
    Calls Try.prog 56 #[.pointer (some ⟨b, 0, none⟩)] w fun e w' => e = .returned (.int .i64 0) ∧ RTo w w' b g d off off 2 :=
  rint_zero b g off off last off d w (hid_of (ruint_bad b g off last d w h hd))
theorem rint_dead (b g off last : Nat) (d : List Int) (w : World) (h : Rst w b g d off last 2) :
    Calls Try.prog 56 #[.pointer (some ⟨b, 0, none⟩)] w fun e w' => e = .returned (.int .i64 0) ∧ RTo w w' b g d off last 2 :=
  rint_zero b g off off last last d w (hid_of (ruint_dead b g off last d w h))

/-- A byte string: how many bytes its length takes, and its length. -/
def decRun (l : List Int) : Option (Nat × Nat) :=
  match dec l with
  | some (n, k) => if n ≤ l.length - k then some (k, n) else none
  | none => none

theorem decRun_some {l : List Int} {k n : Nat} (h : decRun l = some (k, n)) : dec l = some (n, k) ∧ n ≤ l.length - k := by
  unfold decRun at h
  split at h
  · split at h
    · rename_i n' k' he hn
      simp only [Option.some.injEq, Prod.mk.injEq] at h
      obtain ⟨rfl, rfl⟩ := h
      exact ⟨he, hn⟩
    · cases h
  · cases h

set_option maxHeartbeats 400000 in
theorem run_some (b g off last k n : Nat) (d : List Int) (err : Int) (w : World) (h : Rst w b g d off last err) (hd : decRun (d.drop off) = some (k, n)) :
    Calls Try.prog 71 #[.pointer (some ⟨b, 0, none⟩)] w fun e w' => e = .returned (.tuple #[.int .i64 ((off + k : Nat) : Int), .int .i64 ((off + k + n : Nat) : Int), .bool true]) ∧ Drew w w' := by
  obtain ⟨hd1, hd2⟩ := decRun_some hd
  have hb := h.dec_bound hd1
  rw [List.length_drop] at hd2
  have hsm := h.small
  have c0 := h.c0
  have HC := hid_of (number_some b g off last n k d err w h hd1)
  have hdd : decide ((d.length : Int) - ((off + k : Nat) : Int) < (n : Int)) = false := by simp; omega
  obtain ⟨hb0, hb1, hb2, hb3⟩ := hb
  clear hd hd1 h
  go_enter Try.func71, Try.ntmps71
  go_wp2_with (go_at_call 68; refine HC.out.mono ?_; rintro e w1 ⟨rfl, m, rfl⟩)
  go_ret3
  exact ⟨by simp, m, rfl⟩

set_option maxHeartbeats 400000 in
theorem run_none (b g off last : Nat) (d : List Int) (err : Int) (w : World) (h : Rst w b g d off last err) (hd : decRun (d.drop off) = none) :
    Calls Try.prog 71 #[.pointer (some ⟨b, 0, none⟩)] w fun e w' => e = .returned (.tuple #[.int .i64 0, .int .i64 0, .bool false]) ∧ Drew w w' := by
  have hsm := h.small
  have c0 := h.c0
  unfold decRun at hd
  rcases hq : dec (d.drop off) with _ | ⟨n, k⟩
  · have HC := hid_of (number_none b g off last d err w h hq)
    clear hd hq h
    go_enter Try.func71, Try.ntmps71
    go_wp2_with (go_at_call 68; refine HC.out.mono ?_; rintro e w1 ⟨rfl, m, rfl⟩)
    go_ret3
    exact ⟨rfl, m, rfl⟩
  · have HC := hid_of (number_some b g off last n k d err w h hq)
    have hb := h.dec_bound hq
    rw [hq] at hd
    simp only at hd
    split at hd
    · cases hd
    · rename_i hd2
      rw [List.length_drop] at hd2
      have hdd : decide ((d.length : Int) - ((off + k : Nat) : Int) < (n : Int)) = true := by simp; omega
      obtain ⟨hb0, hb1, hb2, hb3⟩ := hb
      clear hd hq h
      go_enter Try.func71, Try.ntmps71
      go_wp2_with (go_at_call 68; refine HC.out.mono ?_; rintro e w1 ⟨rfl, m, rfl⟩)
      go_ret3
      exact ⟨rfl, m, rfl⟩

end Go.Proofs.Ytdmonbcinlmljaa.Wr

/- The last contracts of the Reader of package wire. No condition but bounds on sizes. -/
namespace Go.Proofs.Ytdmonbcinlmljaa.Wr
open Go.RowKit

set_option maxHeartbeats 400000 in
theorem newReader_any (ao : Option Addr) (l : List Int) (cap : Nat) (w : World) (hr : ∀ x ∈ l, 0 ≤ x ∧ x ≤ 255) (hl : l.length ≤ 140737488351232)
    (hpos : 0 < l.length → ∃ ad, ao = some ad ∧ ∀ j v, (bs l)[j]? = some v → w.cell? (ad.add j) = some v) :
    Calls Try.prog 29 #[.slice ao l.length cap] w fun e w' => ∃ b g, e = .returned (.pointer (some ⟨b, 0, none⟩)) ∧ Rst w' b g l 0 0 0 ∧ Below w.heap.size w w' ∧ w.heap.size ≤ b ∧ w.heap.size ≤ g := by
  have HC := hid_of (clone_any ao l cap w hl hpos)
  clear hpos
  go_enter Try.func29, Try.ntmps29
  go_wp2_with (go_at_call 53; refine HC.out.mono ?_; rintro e w1 ⟨rfl, h1, h2⟩; have H1 := hid_of h1; clear h1)
  go_ret
  have hs := lt_of_block H1.out
  refine ⟨_, _, rfl, ⟨heap_alloc_new _ _, ?_, hr, by omega, hl⟩, h2.alloc h2.size _, h2.size, Nat.le_refl _⟩
  rw [Below.heap_alloc _ _ _ hs]
  exact H1.out

set_option maxHeartbeats 400000 in
theorem left_any (b g off last : Nat) (d : List Int) (err : Int) (w : World) (h : Rst w b g d off last err) :
    Calls Try.prog 60 #[.pointer (some ⟨b, 0, none⟩)] w fun e w' => e = .returned (.int .i64 ((d.length - off : Nat) : Int)) ∧ Drew w w' := by
  have c0 := h.c0
  have c1 := h.c1
  have hle := h.le
  have hsm := h.small
  go_enter Try.func60, Try.ntmps60
  have a1 : IntKind.i64.wrap ((d.length : Int) - (off : Int)) = (d.length : Int) - (off : Int) := IntWalk.i64_in _ (by omega)
  go_wp2
  go_quiet (fail)
  go_wp2
  go_ret
  exact ⟨ret_i64 (by omega), nq, rfl⟩
set_option maxHeartbeats 400000 in
theorem end_ok (b g off last : Nat) (d : List Int) (w : World) (h : Rst w b g d off last 0) (ho : off = d.length) :
    Calls Try.prog 31 #[.pointer (some ⟨b, 0, none⟩)] w fun e w' => e = .returned (.int .i64 0) ∧ Drew w w' := by
  have c3 := h.c3
  have HC := hid_of (left_any b g off last d 0 w h)
  have hb : (((d.length - off : Nat) : Int) != 0) = false := by simp; omega
  have H := hid_of h
  clear h ho
  go_enter Try.func31, Try.ntmps31
  go_wp2_with (go_at_call 60; refine HC.out.mono ?_; rintro e w1 ⟨rfl, m, rfl⟩)
  go_ret
  exact ⟨rfl, m, rfl⟩
set_option maxHeartbeats 400000 in
theorem end_bad (b g off last : Nat) (d : List Int) (err : Int) (w : World) (h : Rst w b g d off last err) (ho : err = 2 ∨ (err = 0 ∧ off ≠ d.length)) :
    Calls Try.prog 31 #[.pointer (some ⟨b, 0, none⟩)] w fun e w' => e = .returned (.int .i64 2) ∧ Drew w w' := by
  have c3 := h.c3
  have hle := h.le
  have HC := hid_of (left_any b g off last d err w h)
  rcases ho with rfl | ⟨rfl, ho⟩
  · clear h
    go_enter Try.func31, Try.ntmps31
    go_wp2_with (go_at_call 60; refine HC.out.mono ?_; rintro e w1 ⟨rfl, m, rfl⟩)
    go_ret
    exact ⟨rfl, 0, rfl⟩
  · have hb : (((d.length - off : Nat) : Int) != 0) = true := by simp; omega
    have H := hid_of h
    clear h ho
    go_enter Try.func31, Try.ntmps31
    go_wp2_with (go_at_call 60; refine HC.out.mono ?_; rintro e w1 ⟨rfl, m, rfl⟩)
    go_ret
    exact ⟨rfl, m, rfl⟩

theorem clone_n (ao : Option Addr) (l : List Int) (n cap : Nat) (w : World) (hn : l.length = n) (hl : l.length ≤ 140737488351232)
    (hpos : 0 < l.length → ∃ ad, ao = some ad ∧ ∀ j v, (bs l)[j]? = some v → w.cell? (ad.add j) = some v) :
    Calls Try.prog 53 #[.slice ao n cap] w fun e w' => e = .returned (.slice (some ⟨w.heap.size, 0, none⟩) n n) ∧
      w'.heap[w.heap.size]? = some (.cells (bs l).toArray 5 (0, 0)) ∧ Below w.heap.size w w' := by
  subst hn; exact clone_any ao l cap w hl hpos

/-- The cells of a part of the Reader's bytes. -/
theorem Rst.part {w : World} {b g off last : Nat} {d : List Int} {err : Int} (h : Rst w b g d off last err) (s n : Nat) (a : Nat) (ha : s < d.length → a = s) :
    0 < ((d.drop s).take n).length → ∃ ad, (some (⟨g, a, none⟩ : Addr)) = some ad ∧ ∀ j v, (bs ((d.drop s).take n))[j]? = some v → w.cell? (ad.add j) = some v := by
  intro h0
  have hs : s < d.length := by
    rcases Nat.lt_or_ge s d.length with h1 | h1
    · exact h1
    · rw [List.drop_eq_nil_of_le h1] at h0; simp at h0
  obtain rfl := ha hs
  refine ⟨_, rfl, fun j v hv => ?_⟩
  have hp : (⟨g, a, none⟩ : Addr).add j = ⟨g, a + j, none⟩ := by unfold Addr.add; split <;> simp_all
  rw [hp, cell_of_row _ _ _ _ _ _ h.row]
  simp only [bs, List.map_take, List.map_drop, List.getElem?_take, List.getElem?_drop] at hv
  split at hv
  · simpa [bs] using hv
  · cases hv

theorem ret_slice {a b n : Nat} (h : a = b) : Ending.returned (.slice (some ⟨a, 0, none⟩) n n) = Ending.returned (.slice (some ⟨b, 0, none⟩) n n) := by rw [h]

theorem rbytes_end {w w2 w3 : World} {b g off off' : Nat} {d l : List Int} (R : RTo w w2 b g d off' off 0) (R3 : w3.heap[w2.heap.size]? = some (.cells (bs l).toArray 5 (0, 0)) ∧ Below w2.heap.size w2 w3) :
    Rst w3 b g d off' off 0 ∧ w3.heap[w.heap.size]? = some (.cells (bs l).toArray 5 (0, 0)) ∧ Kept (fun k => k = b) w w3 := by
  obtain ⟨r1, r2, r3⟩ := R
  obtain ⟨q1, q2⟩ := R3
  have hg := r1.glt
  have hb := r1.blt
  rw [r3] at q1
  refine ⟨r1.same (q2.block b hb) (q2.block g hg), q1, ⟨q2.os.trans r2.os, q2.tape.trans r2.tape, q2.output.trans r2.output, Nat.le_trans r2.size q2.size, fun q hq hS => (q2.block q (by omega)).trans (r2.block q hq hS)⟩⟩

theorem RTo.st {w w' : World} {b g off last : Nat} {d : List Int} {err : Int} (h : RTo w w' b g d off last err) : Rst w' b g d off last err := h.1
theorem part_q {w : World} {b g off last s n : Nat} {d q : List Int} {err : Int} (hq : q = (d.drop s).take n) (h : Rst w b g d off last err) :
    0 < q.length → ∃ ad, (some (⟨g, s, none⟩ : Addr)) = some ad ∧ ∀ j v, (bs q)[j]? = some v → w.cell? (ad.add j) = some v := by
  rw [hq]; exact h.part s n s (fun _ => rfl)

set_option maxHeartbeats 400000 in
theorem rtext_ok (b g off last k n : Nat) (d : List Int) (w : World) (h : Rst w b g d off last 0) (hd : decRun (d.drop off) = some (k, n)) :
    Calls Try.prog 59 #[.pointer (some ⟨b, 0, none⟩)] w fun e w' => e = .returned (.string (strOfNums ((d.drop (off + k)).take n))) ∧ RTo w w' b g d (off + k + n) off 0 := by
  obtain ⟨hd1, hd2⟩ := decRun_some hd
  obtain ⟨hb0, hb1, hb2, hb3⟩ := h.dec_bound hd1
  rw [List.length_drop] at hd2
  have hsm := h.small
  have c0 := h.c0
  have HC := hid_of (run_some b g off last k n d 0 w h hd)
  have H := hid_of h
  have hen : off + k + n ≤ d.length := by omega
  clear hd hd1 h
  have hpl : ((d.drop (off + k)).take n).length = n := by rw [List.length_take, List.length_drop]; omega
  have HPL := hid_of hpl
  clear hpl
  by_cases hs : off + k = d.length
  · have hn0 : n = 0 := by omega
    subst hn0
    have HS := hid_of hs
    have hi1 : d.length ≤ off + k := by omega
    clear hs
    go_enter Try.func59, Try.ntmps59
    go_wp2_with (first
      | (go_at_call 71; refine HC.out.mono ?_; rintro e w1 ⟨rfl, m, rfl⟩)
      | (go_at_call 69; refine (settle_ok b g off last (off + k + 0) d _ (H.out.drewN _) hen).mono ?_; rintro e w2 ⟨rfl, h2⟩; have R := hid_of h2.ofDrewN; have c0' := h2.1.c0; clear h2)
      | (with_reducible refine wpList_str _ rfl 34 9 _ rfl 5 Try.underlying34 Try.underlying5 Try.underlying9 _ [] _ rfl (fun h0 => by simp at h0) ?_))
    go_ret
    refine ⟨?_, R.out⟩
    simp
  · have hs1 : off + k < d.length := by omega
    clear hs
    go_enter Try.func59, Try.ntmps59
    obtain ⟨q, hq⟩ : ∃ q, q = (d.drop (off + k)).take n := ⟨_, rfl⟩
    have HQ := hid_of hq
    rw [← hq]
    rw [← hq] at HPL
    have HPN : Hid (q.length = off + k + n - (off + k)) := hid_of (by have := HPL.out; omega)
    clear hq
    go_wp2_with (first
      | (go_at_call 71; refine HC.out.mono ?_; rintro e w1 ⟨rfl, m, rfl⟩)
      | (go_at_call 69; refine (settle_ok b g off last (off + k + n) d _ (H.out.drewN _) hen).mono ?_; rintro e w2 ⟨rfl, h2⟩; have R := hid_of h2.ofDrewN; have c0' := h2.1.c0; clear h2)
      | (with_reducible refine wpList_str_n _ rfl 34 9 _ rfl 5 Try.underlying34 Try.underlying5 Try.underlying9 (some ⟨g, off + k, none⟩) q (off + k + n - (off + k)) (d.length - (off + k)) HPN.out rfl (part_q HQ.out (RTo.st R.out)) ?_))
    go_ret
    exact ⟨rfl, R.out⟩

set_option maxHeartbeats 400000 in
theorem rtext_bad (b g off last : Nat) (d : List Int) (w : World) (h : Rst w b g d off last 0) (hd : decRun (d.drop off) = none) :
    Calls Try.prog 59 #[.pointer (some ⟨b, 0, none⟩)] w fun e w' => e = .returned (.string (strOfNums [])) ∧ RTo w w' b g d off off 2 := by
  have HC := hid_of (run_none b g off last d 0 w h hd)
  have H := hid_of h
  clear hd h
  go_enter Try.func59, Try.ntmps59
  go_wp2_with (first
    | (go_at_call 71; refine HC.out.mono ?_; rintro e w1 ⟨rfl, m, rfl⟩)
    | (go_at_call 69; refine (settle_bad b g off last 0 d _ (H.out.drewN _)).mono ?_; rintro e w2 ⟨rfl, h2⟩; have R := hid_of h2.ofDrewN; clear h2))
  go_ret
  exact ⟨rfl, R.out⟩

set_option maxHeartbeats 400000 in
theorem rtext_dead (b g off last : Nat) (d : List Int) (w : World) (h : Rst w b g d off last 2) :
    Calls Try.prog 59 #[.pointer (some ⟨b, 0, none⟩)] w fun e w' => e = .returned (.string (strOfNums [])) ∧ RTo w w' b g d off last 2 := by
  have H := hid_of h
  rcases hd : decRun (d.drop off) with _ | ⟨k, n⟩
  · have HC := hid_of (run_none b g off last d 2 w h hd)
    clear hd h
    go_enter Try.func59, Try.ntmps59
    go_wp2_with (first
      | (go_at_call 71; refine HC.out.mono ?_; rintro e w1 ⟨rfl, m, rfl⟩)
      | (go_at_call 69; refine (settle_dead b g off last _ _ d _ (H.out.drewN _)).mono ?_; rintro e w2 ⟨rfl, h2⟩; have R := hid_of h2.ofDrewN; clear h2))
    go_ret
    exact ⟨rfl, R.out⟩
  · have HC := hid_of (run_some b g off last k n d 2 w h hd)
    clear hd h
    go_enter Try.func59, Try.ntmps59
    go_wp2_with (first
      | (go_at_call 71; refine HC.out.mono ?_; rintro e w1 ⟨rfl, m, rfl⟩)
      | (go_at_call 69; refine (settle_dead b g off last _ _ d _ (H.out.drewN _)).mono ?_; rintro e w2 ⟨rfl, h2⟩; have R := hid_of h2.ofDrewN; clear h2))
    go_ret
    exact ⟨rfl, R.out⟩

set_option maxHeartbeats 400000 in
theorem rcount_ok (b g off last n k : Nat) (d : List Int) (w : World) (h : Rst w b g d off last 0) (hd : dec (d.drop off) = some (n, k)) (hn : off + k + n ≤ d.length) :
    Calls Try.prog 70 #[.pointer (some ⟨b, 0, none⟩)] w fun e w' => e = .returned (.int .i64 n) ∧ RTo w w' b g d (off + k) off 0 := by
  obtain ⟨hb0, hb1, hb2, hb3⟩ := h.dec_bound hd
  have hsm := h.small
  have c0 := h.c0
  have HC := hid_of (number_some b g off last n k d 0 w h hd)
  have H := hid_of h
  have hdd : decide ((n : Int) ≤ (d.length : Int) - ((off : Int) + (k : Int))) = true := by simp; omega
  have hok : off + k ≤ d.length := hb1
  clear hd h
  go_enter Try.func70, Try.ntmps70
  go_wp2_with (first
    | (go_at_call 68; refine HC.out.mono ?_; rintro e w1 ⟨rfl, m, rfl⟩)
    | (go_at_call 69; refine (settle_ok b g off last (off + k) d _ (H.out.drewN _) hok).mono ?_; rintro e w2 ⟨rfl, h2⟩; have R := hid_of h2.ofDrewN; clear h2))
  go_ret
  exact ⟨rfl, R.out⟩

end Go.Proofs.Ytdmonbcinlmljaa.Wr

/- Rows of structs of two cells: what a slice reads as, a slice of the call's own, append. Bounds on sizes alone. -/
namespace Go.Proofs.Ytdmonbcinlmljaa
open Go.RowKit

abbrev PV := Value × Value
/-- The cells of a list of pairs. -/
def prs (l : List PV) : List Value := l.flatMap fun t => [t.1, t.2]
theorem prs_length (l : List PV) : (prs l).length = l.length * 2 := by
  induction l with
  | nil => rfl
  | cons t r ih => simp only [prs, List.flatMap_cons, List.length_append, List.length_cons, List.length_nil] at ih ⊢; omega
theorem prs_append (a b : List PV) : prs (a ++ b) = prs a ++ prs b := by simp [prs]
theorem prs_get : ∀ (l : List PV) (i : Nat) (t : PV), l[i]? = some t → (prs l)[i * 2]? = some t.1 ∧ (prs l)[i * 2 + 1]? = some t.2 := by
  intro l
  induction l with
  | nil => intro i t h; simp at h
  | cons s r ih =>
    intro i t h
    cases i with
    | zero => simp at h; subst h; exact ⟨rfl, rfl⟩
    | succ i =>
      have h1 := ih i t (by simpa using h)
      have e : prs (s :: r) = s.1 :: s.2 :: prs r := rfl
      rw [e, show (i + 1) * 2 = i * 2 + 1 + 1 by omega]
      exact h1
/-- The slice v reads as the pairs l. -/
def PRd (w : World) (v : Value) (l : List PV) : Prop :=
  ∃ ao cap, v = .slice ao l.length cap ∧ l.length ≤ cap ∧ cap ≤ 9223372036854775807 ∧ (0 < l.length → ∃ g o, ao = some ⟨g, o, none⟩ ∧ g < w.heap.size ∧ ∀ i t, l[i]? = some t → w.cell? ⟨g, o + i * 2, none⟩ = some t.1 ∧ w.cell? ⟨g, o + i * 2 + 1, none⟩ = some t.2)
theorem PRd.later {w w' : World} {v : Value} {l : List PV} {B : Nat} (h : PRd w v l) (hb : Below B w w') (hB : w.heap.size ≤ B) : PRd w' v l := by
  obtain ⟨ao, cap, h1, h2, h3, h4⟩ := h
  refine ⟨ao, cap, h1, h2, h3, fun h0 => ?_⟩
  obtain ⟨g, o, q1, q2, q3⟩ := h4 h0
  refine ⟨g, o, q1, Nat.lt_of_lt_of_le q2 hb.size, fun i t ht => ?_⟩
  obtain ⟨r1, r2⟩ := q3 i t ht
  exact ⟨(hb.cell (p := ⟨g, o + i * 2, none⟩) (by show g < B; omega)).trans r1, (hb.cell (p := ⟨g, o + i * 2 + 1, none⟩) (by show g < B; omega)).trans r2⟩
theorem PRd.at {w w' : World} {v : Value} {l : List PV} (h : PRd w v l) (hb : Below w.heap.size w w') : PRd w' v l := h.later hb (Nat.le_refl _)
theorem prd_nil (w : World) : PRd w (.slice none 0 0) [] := ⟨none, 0, rfl, Nat.le_refl _, by omega, fun h => by simp at h⟩
theorem PRd.cut {w : World} {ao : Option Addr} {n cap : Nat} {l : List PV} (h : PRd w (.slice ao n cap) l) : n = l.length ∧ n ≤ cap ∧ cap ≤ 9223372036854775807 := by
  obtain ⟨_, _, e, h2, h3, _⟩ := h
  simp only [Value.slice.injEq] at e
  omega
theorem PRd.get {w : World} {ao : Option Addr} {n cap : Nat} {l : List PV} (h : PRd w (.slice ao n cap) l) {i : Nat} {t : PV} (hi : l[i]? = some t) : ∃ g o, ao = some ⟨g, o, none⟩ ∧ w.cell? ⟨g, o + i * 2, none⟩ = some t.1 ∧ w.cell? ⟨g, o + i * 2 + 1, none⟩ = some t.2 := by
  obtain ⟨_, _, e, h2, h3, h4⟩ := h
  simp only [Value.slice.injEq] at e
  obtain ⟨rfl, _, rfl⟩ := e
  obtain ⟨g, o, q1, _, q3⟩ := h4 (by have := (List.getElem?_eq_some_iff.1 hi).1; omega)
  exact ⟨g, o, q1, q3 i t hi⟩

/-- A slice of the call's own that holds l; below B the world is as w0 was. -/
def OP (E : TypeId) (B : Nat) (w0 w : World) (v : Value) (l : List PV) : Prop := B ≤ w0.heap.size ∧ Below B w0 w ∧ w.ownsRow B E 2 v l.length (prs l)
section
variable {E : TypeId} {B : Nat} {w0 w w' : World} {v : Value} {l : List PV}
theorem OP.size (h : OP E B w0 w v l) : B ≤ w.heap.size := Nat.le_trans h.1 h.2.1.size
theorem OP.own (h : OP E B w0 w v l) : w.ownsRow B E 2 v l.length (prs l) := h.2.2
theorem OP.bel (h : OP E B w0 w v l) : Below B w0 w := h.2.1
theorem OP.app {n : Nat} {v' : Value} {m : List PV} (h : OP E B w0 w v l) (hown : w'.ownsRow B E 2 v' n (prs l ++ prs m)) (hn : n = l.length + m.length) (hg : w.grownBy w' v.ownBlock) : OP E B w0 w' v' (l ++ m) := by
  subst hn
  refine ⟨h.1, h.2.1.grown hg h.size (fun k hk => (h.own.lt k hk).1), ?_⟩
  rw [List.length_append, prs_append]
  exact hown
theorem own_same2 {w w' : World} {base e size n : Nat} {v : Value} {xs : List Value} (h : w.ownsRow base e size v n xs) (hs : ∀ k, v.ownBlock = some k → w'.heap[k]? = w.heap[k]?) : w'.ownsRow base e size v n xs := by
  obtain ⟨h1, h2⟩ := h
  refine ⟨h1, ?_⟩
  rcases h2 with h2 | ⟨g, cap, cur, hv, hb, hg, r⟩
  · exact .inl h2
  · exact .inr ⟨g, cap, cur, hv, hb, (hs g (by rw [hv]; rfl)).trans hg, r⟩
theorem OP.later (h : OP E B w0 w v l) (hb : Below w.heap.size w w') : OP E B w0 w' v l :=
  ⟨h.1, h.2.1.trans (hb.mono h.size), own_same2 h.own fun k hk => hb.block k (h.own.lt k hk).2⟩
theorem op_made {n g : Nat} (hown : w'.ownsRow w.heap.size E 2 (.slice (some ⟨g, 0, none⟩) 0 n) 0 []) (hgrow : w.grownBy w' none) : OP E w.heap.size w w' (.slice (some ⟨g, 0, none⟩) 0 n) [] :=
  ⟨Nat.le_refl _, (Below.refl _ _).grown hgrow (Nat.le_refl _) (fun k h => by cases h), hown⟩
theorem op_nil (E : TypeId) (w : World) : OP E w.heap.size w w (.slice none 0 0) [] := ⟨Nat.le_refl _, Below.refl _ _, ⟨by simp [prs], .inl ⟨rfl, rfl⟩⟩⟩
theorem op_empty (E : TypeId) (w : World) : OP E w.heap.size w (w.alloc (.cells #[] E)) (.slice (some ⟨w.heap.size, 0, none⟩) 0 0) [] :=
  ⟨Nat.le_refl _, bel_alloc w _, by simp [prs], .inr ⟨w.heap.size, 0, #[], rfl, Nat.le_refl _, heap_alloc_new w _, Nat.le_refl _, by unfold maxLen; omega, rfl, rfl⟩⟩
theorem OP.start (h : OP E B w0 w v l) {B2 : Nat} {w2 : World} (hB : B2 ≤ w2.heap.size) (hb : Below B2 w2 w0) (hle : B2 ≤ B) : OP E B2 w2 w v l := by
  refine ⟨hB, hb.trans (h.bel.mono hle), h.own.1, ?_⟩
  rcases h.own.2 with h2 | ⟨g, cap, cur, hv, hb2, hg, r⟩
  · exact .inl h2
  · exact .inr ⟨g, cap, cur, hv, Nat.le_trans hle hb2, hg, r⟩
theorem OP.prd (h : OP E B w0 w v l) : PRd w v l := by
  rcases h.own.2 with ⟨h1, h2⟩ | ⟨g, c, cur, h1, _, hg, hnc, hcm, _, ht⟩
  · exact ⟨none, 0, by rw [h1, h2], by omega, by omega, fun h => by omega⟩
  · unfold maxLen at hcm
    refine ⟨_, _, h1, hnc, by omega, fun h0 => ⟨g, 0, rfl, lt_of_block hg, fun i t hi => ?_⟩⟩
    have hil := (List.getElem?_eq_some_iff.1 hi).1
    obtain ⟨g1, g2⟩ := prs_get l i t hi
    have q : ∀ j u, (prs l)[j]? = some u → w.cell? ⟨g, 0 + j, none⟩ = some u := fun j u hu => by
      have := World.news_of_block hg j u (by
        rw [← ht, List.getElem?_take] at hu
        split at hu
        · exact hu
        · cases hu)
      rw [Addr.add_mid] at this
      exact this
    exact ⟨q _ _ g1, q _ _ g2⟩
end
theorem own_shapeP {w : World} {base e size n : Nat} {v : Value} {xs : List Value} (h : w.ownsRow base e size v n xs) : ∃ ao cap, v = .slice ao n cap := by
  rcases h.2 with ⟨h1, h2⟩ | ⟨g, cap, cur, h1, _⟩
  · exact ⟨none, 0, by rw [h1, h2]⟩
  · exact ⟨_, cap, h1⟩
/-- A slice type S over a struct type E of two cells. -/
structure Elem2 (P : Program) (S E : TypeId) (z : Value) (eb : Nat) : Prop where
  und : P.underlying S = some (.slice E)
  info : (P.info? E).map (fun i => (i.zero, i.size, i.bytes)) = some (some z, 2, eb)
  two : z.cells.size = 2
theorem PRd.src {P : Program} {S E : TypeId} {z : Value} {eb : Nat} (T : Elem2 P S E z eb) {w : World} {v : Value} {l : List PV} (h : PRd w v l) (h1 : ∀ u ∈ prs l, u.oneCell' = true) : Src P 2 S v l.length (prs l) w := by
  obtain ⟨ao, cap, rfl, h2, h3, h4⟩ := h
  by_cases h0 : 0 < l.length
  · obtain ⟨g, o, rfl, hg, hc⟩ := h4 h0
    refine Src.ofSlice _ T.und _ _ _ (prs l) (prs_length l) (fun j u hu => ?_) h1
    have hj : j < l.length * 2 := by rw [← prs_length]; exact (List.getElem?_eq_some_iff.1 hu).1
    obtain ⟨t, ht⟩ : ∃ t, l[j / 2]? = some t := ⟨_, List.getElem?_eq_getElem (by omega)⟩
    obtain ⟨c1, c2⟩ := hc _ t ht
    obtain ⟨g1, g2⟩ := prs_get l _ t ht
    rw [Addr.add_mid]
    rcases Nat.mod_two_eq_zero_or_one j with hm | hm
    · rw [show j / 2 * 2 = j by omega] at c1 g1
      rw [c1]; exact g1.symm.trans hu
    · rw [show o + j / 2 * 2 + 1 = o + j by omega] at c2
      rw [show j / 2 * 2 + 1 = j by omega] at g2
      rw [c2]; exact g2.symm.trans hu
  · obtain rfl : l = [] := by cases l with
      | nil => rfl
      | cons a r => simp at h0
    cases ao with
    | none => exact Src.ofNil _ T.und _
    | some a => exact Src.ofSlice _ T.und a _ _ [] rfl (fun j u hu => by simp at hu) (by simp)
/-- append of one pair that has just been laid. -/
theorem wpList_pr {P : Program} {S E : TypeId} {z : Value} {eb : Nat} (T : Elem2 P S E z eb) {ops : Array Oper} {rest : List Oper} {o : Oper} {a : Act} {w : World} {Q : Exit → Act → World → Prop} (hgd : o.guard = none) (s x : Operand)
    (ho : o.op = .call { callee := .builtin .append, args := #[s, x], argTypes := #[S, S] })
    {B : Nat} {w0 : World} {v : Value} {l : List PV} (hv : a.eval s = v) (H : OP E B w0 w v l) {vx : Value} {m : List PV} (hx : a.eval x = vx) (L : PRd w vx m) (h1 : ∀ u ∈ prs m, u.oneCell' = true) (hl : (l.length + m.length) * eb ≤ 140737488355328) (hl2 : l.length + m.length ≤ 140737488355328)
    (h : ∀ (ao : Option Addr) (n cap : Nat) (w' : World), n = l.length + m.length → OP E B w0 w' (.slice ao n cap) (l ++ m) → w.grownBy w' v.ownBlock → wpList P ops Q rest (a.put o.dst (.slice ao n cap)) w') :
    wpList P ops Q (o :: rest) a w := by
  obtain ⟨i0, hi, hz0, hz1, hz2⟩ := info_parts T.info
  refine wpList_append_src _ hgd s x S S ho B E i0 z 2 eb T.und hi hz0 hz1 hz2 T.two (by decide) v l.length (prs l) hv H.own vx m.length (prs m) hx (L.src T h1) (by unfold maxLen; omega) (by omega) H.size ?_
  intro v2 w2 hown hg _ _
  have H2 := H.app (m := m) hown rfl hg
  obtain ⟨ao, cap, rfl⟩ := own_shapeP hown
  exact h ao _ cap w2 rfl H2 hg
theorem prd_new {w : World} {u v : Value} {E : TypeId} {m : Nat × Nat} : PRd (w.alloc (.cells #[u, v] E m)) (.slice (some ⟨w.heap.size, 0, none⟩) 1 1) [(u, v)] := by
  refine ⟨_, _, rfl, Nat.le_refl _, by simp, fun _ => ⟨_, _, rfl, by simp, fun i t hi => ?_⟩⟩
  have : i = 0 := by have := (List.getElem?_eq_some_iff.1 hi).1; simp at this; omega
  subst this
  simp only [List.getElem?_cons_zero, Option.some.injEq] at hi
  subst hi
  have hb := heap_alloc_new w (.cells #[u, v] E m)
  have c0 := World.news_of_block hb 0 u rfl
  have c1 := World.news_of_block hb 1 v rfl
  rw [Addr.add_mid] at c0 c1
  exact ⟨c0, c1⟩
end Go.Proofs.Ytdmonbcinlmljaa

/- Rows of structs of 6 cells: what a slice reads as, a slice of the call's own, append. Bounds on sizes alone. -/
namespace Go.Proofs.Ytdmonbcinlmljaa
open Go.RowKit

structure SxV where
  a : Value
  b : Value
  c : Value
  d : Value
  e : Value
  f : Value
def SxV.cs (t : SxV) : List Value := [t.a, t.b, t.c, t.d, t.e, t.f]
/-- The cells of a list of structs. -/
def sxds (l : List SxV) : List Value := l.flatMap SxV.cs
theorem sxds_length (l : List SxV) : (sxds l).length = l.length * 6 := by
  induction l with
  | nil => rfl
  | cons t r ih => simp only [sxds, SxV.cs, List.flatMap_cons, List.length_append, List.length_cons, List.length_nil] at ih ⊢; omega
theorem sxds_append (a b : List SxV) : sxds (a ++ b) = sxds a ++ sxds b := by simp [sxds]
theorem sxds_get : ∀ (l : List SxV) (i : Nat) (t : SxV), l[i]? = some t → (sxds l)[i * 6]? = some t.a ∧ (sxds l)[i * 6 + 1]? = some t.b ∧ (sxds l)[i * 6 + 2]? = some t.c ∧ (sxds l)[i * 6 + 3]? = some t.d ∧ (sxds l)[i * 6 + 4]? = some t.e ∧ (sxds l)[i * 6 + 5]? = some t.f := by
  intro l
  induction l with
  | nil => intro i t h; simp at h
  | cons s r ih =>
    intro i t h
    cases i with
    | zero => simp at h; subst h; exact ⟨rfl, rfl, rfl, rfl, rfl, rfl⟩
    | succ i =>
      have h1 := ih i t (by simpa using h)
      have e : sxds (s :: r) = s.a :: s.b :: s.c :: s.d :: s.e :: s.f :: sxds r := rfl
      rw [e, show (i + 1) * 6 = i * 6 + 1 + 1 + 1 + 1 + 1 + 1 by omega]
      exact h1
/-- The slice v reads as the structs l. -/
def SxRd (w : World) (v : Value) (l : List SxV) : Prop :=
  ∃ ao cap, v = .slice ao l.length cap ∧ l.length ≤ cap ∧ cap ≤ 9223372036854775807 ∧ (0 < l.length → ∃ g o, ao = some ⟨g, o, none⟩ ∧ g < w.heap.size ∧ ∀ i t, l[i]? = some t → w.cell? ⟨g, o + i * 6, none⟩ = some t.a ∧ w.cell? ⟨g, o + i * 6 + 1, none⟩ = some t.b ∧ w.cell? ⟨g, o + i * 6 + 2, none⟩ = some t.c ∧ w.cell? ⟨g, o + i * 6 + 3, none⟩ = some t.d ∧ w.cell? ⟨g, o + i * 6 + 4, none⟩ = some t.e ∧ w.cell? ⟨g, o + i * 6 + 5, none⟩ = some t.f)
theorem SxRd.later {w w' : World} {v : Value} {l : List SxV} {B : Nat} (h : SxRd w v l) (hb : Below B w w') (hB : w.heap.size ≤ B) : SxRd w' v l := by
  obtain ⟨ao, cap, h1, h2, h3, h4⟩ := h
  refine ⟨ao, cap, h1, h2, h3, fun h0 => ?_⟩
  obtain ⟨g, o, q1, q2, q3⟩ := h4 h0
  refine ⟨g, o, q1, Nat.lt_of_lt_of_le q2 hb.size, fun i t ht => ?_⟩
  obtain ⟨r1, r2, r3, r4, r5, r6⟩ := q3 i t ht
  exact ⟨(hb.cell (p := ⟨g, o + i * 6, none⟩) (by show g < B; omega)).trans r1, (hb.cell (p := ⟨g, o + i * 6 + 1, none⟩) (by show g < B; omega)).trans r2, (hb.cell (p := ⟨g, o + i * 6 + 2, none⟩) (by show g < B; omega)).trans r3, (hb.cell (p := ⟨g, o + i * 6 + 3, none⟩) (by show g < B; omega)).trans r4, (hb.cell (p := ⟨g, o + i * 6 + 4, none⟩) (by show g < B; omega)).trans r5, (hb.cell (p := ⟨g, o + i * 6 + 5, none⟩) (by show g < B; omega)).trans r6⟩
theorem SxRd.at {w w' : World} {v : Value} {l : List SxV} (h : SxRd w v l) (hb : Below w.heap.size w w') : SxRd w' v l := h.later hb (Nat.le_refl _)
theorem sxrd_nil (w : World) : SxRd w (.slice none 0 0) [] := ⟨none, 0, rfl, Nat.le_refl _, by omega, fun h => by simp at h⟩
theorem SxRd.cut {w : World} {ao : Option Addr} {n cap : Nat} {l : List SxV} (h : SxRd w (.slice ao n cap) l) : n = l.length ∧ n ≤ cap ∧ cap ≤ 9223372036854775807 := by
  obtain ⟨_, _, e, h2, h3, _⟩ := h
  simp only [Value.slice.injEq] at e
  omega
theorem SxRd.get {w : World} {ao : Option Addr} {n cap : Nat} {l : List SxV} (h : SxRd w (.slice ao n cap) l) {i : Nat} {t : SxV} (hi : l[i]? = some t) : ∃ g o, ao = some ⟨g, o, none⟩ ∧ w.cell? ⟨g, o + i * 6, none⟩ = some t.a ∧ w.cell? ⟨g, o + i * 6 + 1, none⟩ = some t.b ∧ w.cell? ⟨g, o + i * 6 + 2, none⟩ = some t.c ∧ w.cell? ⟨g, o + i * 6 + 3, none⟩ = some t.d ∧ w.cell? ⟨g, o + i * 6 + 4, none⟩ = some t.e ∧ w.cell? ⟨g, o + i * 6 + 5, none⟩ = some t.f := by
  obtain ⟨_, _, e, h2, h3, h4⟩ := h
  simp only [Value.slice.injEq] at e
  obtain ⟨rfl, _, rfl⟩ := e
  obtain ⟨g, o, q1, _, q3⟩ := h4 (by have := (List.getElem?_eq_some_iff.1 hi).1; omega)
  exact ⟨g, o, q1, q3 i t hi⟩

/-- A slice of the call's own that holds l; below B the world is as w0 was. -/
def OSx (E : TypeId) (B : Nat) (w0 w : World) (v : Value) (l : List SxV) : Prop := B ≤ w0.heap.size ∧ Below B w0 w ∧ w.ownsRow B E 6 v l.length (sxds l)
section
variable {E : TypeId} {B : Nat} {w0 w w' : World} {v : Value} {l : List SxV}
theorem OSx.size (h : OSx E B w0 w v l) : B ≤ w.heap.size := Nat.le_trans h.1 h.2.1.size
theorem OSx.own (h : OSx E B w0 w v l) : w.ownsRow B E 6 v l.length (sxds l) := h.2.2
theorem OSx.bel (h : OSx E B w0 w v l) : Below B w0 w := h.2.1
theorem OSx.app {n : Nat} {v' : Value} {m : List SxV} (h : OSx E B w0 w v l) (hown : w'.ownsRow B E 6 v' n (sxds l ++ sxds m)) (hn : n = l.length + m.length) (hg : w.grownBy w' v.ownBlock) : OSx E B w0 w' v' (l ++ m) := by
  subst hn
  refine ⟨h.1, h.2.1.grown hg h.size (fun k hk => (h.own.lt k hk).1), ?_⟩
  rw [List.length_append, sxds_append]
  exact hown
theorem OSx.alloc (h : OSx E B w0 w v l) (o : Obj) : OSx E B w0 (w.alloc o) v l := ⟨h.1, h.2.1.alloc h.size _, h.2.2.alloc o⟩
theorem OSx.drewN (h : OSx E B w0 w v l) (k : Nat) : OSx E B w0 (w.drewN k) v l := ⟨h.1, ⟨h.2.1.os, h.2.1.tape, h.2.1.output, h.2.1.size, h.2.1.block⟩, h.2.2⟩
theorem OSx.drew (h : OSx E B w0 w v l) : OSx E B w0 w.drew v l := ⟨h.1, h.2.1.drew, h.2.2.drew⟩
theorem OSx.later (h : OSx E B w0 w v l) (hb : Below w.heap.size w w') : OSx E B w0 w' v l :=
  ⟨h.1, h.2.1.trans (hb.mono h.size), own_same h.own fun k hk => hb.block k (h.own.lt k hk).2⟩
theorem osx_nil (E : TypeId) (w : World) : OSx E w.heap.size w w (.slice none 0 0) [] := ⟨Nat.le_refl _, Below.refl _ _, ⟨by simp [sxds], .inl ⟨rfl, rfl⟩⟩⟩
theorem OSx.start (h : OSx E B w0 w v l) {B2 : Nat} {w2 : World} (hB : B2 ≤ w2.heap.size) (hb : Below B2 w2 w0) (hle : B2 ≤ B) : OSx E B2 w2 w v l := by
  refine ⟨hB, hb.trans (h.bel.mono hle), h.own.1, ?_⟩
  rcases h.own.2 with h2 | ⟨g, cap, cur, hv, hb2, hg, r⟩
  · exact .inl h2
  · exact .inr ⟨g, cap, cur, hv, Nat.le_trans hle hb2, hg, r⟩
theorem sx_rd_of_own (h : w.ownsRow B E 6 v l.length (sxds l)) : SxRd w v l := by
  rcases h.2 with ⟨h1, h2⟩ | ⟨g, c, cur, h1, _, hg, hnc, hcm, _, ht⟩
  · exact ⟨none, 0, by rw [h1, h2], by omega, by omega, fun h => by omega⟩
  · unfold maxLen at hcm
    refine ⟨_, _, h1, hnc, by omega, fun h0 => ⟨g, 0, rfl, lt_of_block hg, fun i t hi => ?_⟩⟩
    obtain ⟨g1, g2, g3, g4, g5, g6⟩ := sxds_get l i t hi
    have q : ∀ j u, (sxds l)[j]? = some u → w.cell? ⟨g, 0 + j, none⟩ = some u := fun j u hu => by
      have := World.news_of_block hg j u (by
        rw [← ht, List.getElem?_take] at hu
        split at hu
        · exact hu
        · cases hu)
      rw [Addr.add_mid] at this
      exact this
    exact ⟨q _ _ g1, q _ _ g2, q _ _ g3, q _ _ g4, q _ _ g5, q _ _ g6⟩
theorem OSx.rd (h : OSx E B w0 w v l) : SxRd w v l := sx_rd_of_own h.own
end
/-- A slice type S over a struct type E of 6 cells. -/
structure Elem6 (P : Program) (S E : TypeId) (z : Value) (eb : Nat) : Prop where
  und : P.underlying S = some (.slice E)
  info : (P.info? E).map (fun i => (i.zero, i.size, i.bytes)) = some (some z, 6, eb)
  cells : z.cells.size = 6
theorem SxRd.src {P : Program} {S E : TypeId} {z : Value} {eb : Nat} (T : Elem6 P S E z eb) {w : World} {v : Value} {l : List SxV} (h : SxRd w v l) (h1 : ∀ u ∈ sxds l, u.oneCell' = true) : Src P 6 S v l.length (sxds l) w := by
  obtain ⟨ao, cap, rfl, h2, h3, h4⟩ := h
  by_cases h0 : 0 < l.length
  · obtain ⟨g, o, rfl, hg, hc⟩ := h4 h0
    refine Src.ofSlice _ T.und _ _ _ (sxds l) (sxds_length l) (fun j u hu => ?_) h1
    have hj : j < l.length * 6 := by rw [← sxds_length]; exact (List.getElem?_eq_some_iff.1 hu).1
    obtain ⟨t, ht⟩ : ∃ t, l[j / 6]? = some t := ⟨_, List.getElem?_eq_getElem (by omega)⟩
    obtain ⟨c1, c2, c3, c4, c5, c6⟩ := hc _ t ht
    obtain ⟨g1, g2, g3, g4, g5, g6⟩ := sxds_get l _ t ht
    rw [Addr.add_mid]
    have hm : j % 6 = 0 ∨ j % 6 = 1 ∨ j % 6 = 2 ∨ j % 6 = 3 ∨ j % 6 = 4 ∨ j % 6 = 5 := by omega
    rcases hm with hm | hm | hm | hm | hm | hm
    · rw [show j / 6 * 6 = j by omega] at c1 g1
      rw [c1]; exact g1.symm.trans hu
    · rw [show o + j / 6 * 6 + 1 = o + j by omega] at c2
      rw [show j / 6 * 6 + 1 = j by omega] at g2
      rw [c2]; exact g2.symm.trans hu
    · rw [show o + j / 6 * 6 + 2 = o + j by omega] at c3
      rw [show j / 6 * 6 + 2 = j by omega] at g3
      rw [c3]; exact g3.symm.trans hu
    · rw [show o + j / 6 * 6 + 3 = o + j by omega] at c4
      rw [show j / 6 * 6 + 3 = j by omega] at g4
      rw [c4]; exact g4.symm.trans hu
    · rw [show o + j / 6 * 6 + 4 = o + j by omega] at c5
      rw [show j / 6 * 6 + 4 = j by omega] at g5
      rw [c5]; exact g5.symm.trans hu
    · rw [show o + j / 6 * 6 + 5 = o + j by omega] at c6
      rw [show j / 6 * 6 + 5 = j by omega] at g6
      rw [c6]; exact g6.symm.trans hu
  · obtain rfl : l = [] := by cases l with
      | nil => rfl
      | cons a r => simp at h0
    cases ao with
    | none => exact Src.ofNil _ T.und _
    | some a => exact Src.ofSlice _ T.und a _ _ [] rfl (fun j u hu => by simp at hu) (by simp)
/-- append of a row of structs. -/
theorem wpList_sx {P : Program} {S E : TypeId} {z : Value} {eb : Nat} (T : Elem6 P S E z eb) {ops : Array Oper} {rest : List Oper} {o : Oper} {a : Act} {w : World} {Q : Exit → Act → World → Prop} (hgd : o.guard = none) (s x : Operand)
    (ho : o.op = .call { callee := .builtin .append, args := #[s, x], argTypes := #[S, S] })
    {B : Nat} {w0 : World} {v : Value} {l : List SxV} (hv : a.eval s = v) (H : OSx E B w0 w v l) {vx : Value} {m : List SxV} (hx : a.eval x = vx) (L : SxRd w vx m) (h1 : ∀ u ∈ sxds m, u.oneCell' = true) (hl : (l.length + m.length) * eb ≤ 140737488355328) (hl2 : l.length + m.length ≤ 140737488355328)
    (h : ∀ (ao : Option Addr) (n cap : Nat) (w' : World), n = l.length + m.length → OSx E B w0 w' (.slice ao n cap) (l ++ m) → w.grownBy w' v.ownBlock → wpList P ops Q rest (a.put o.dst (.slice ao n cap)) w') :
    wpList P ops Q (o :: rest) a w := by
  obtain ⟨i0, hi, hz0, hz1, hz2⟩ := info_parts T.info
  refine wpList_append_src _ hgd s x S S ho B E i0 z 6 eb T.und hi hz0 hz1 hz2 T.cells (by decide) v l.length (sxds l) hv H.own vx m.length (sxds m) hx (L.src T h1) (by unfold maxLen; omega) (by omega) H.size ?_
  intro v2 w2 hown hg _ _
  have H2 := H.app (m := m) hown rfl hg
  obtain ⟨ao, cap, rfl⟩ := own_shape hown
  exact h ao _ cap w2 rfl H2 hg
theorem sxrd_new {w : World} {t : SxV} {E : TypeId} {m : Nat × Nat} : SxRd (w.alloc (.cells #[t.a, t.b, t.c, t.d, t.e, t.f] E m)) (.slice (some ⟨w.heap.size, 0, none⟩) 1 1) [t] := by
  refine ⟨_, _, rfl, Nat.le_refl _, by simp, fun _ => ⟨_, _, rfl, by simp, fun i u hi => ?_⟩⟩
  have : i = 0 := by have := (List.getElem?_eq_some_iff.1 hi).1; simp at this; omega
  subst this
  simp only [List.getElem?_cons_zero, Option.some.injEq] at hi
  subst hi
  have hb := heap_alloc_new w (.cells #[t.a, t.b, t.c, t.d, t.e, t.f] E m)
  have c0 := World.news_of_block hb 0 t.a rfl
  have c1 := World.news_of_block hb 1 t.b rfl
  have c2 := World.news_of_block hb 2 t.c rfl
  have c3 := World.news_of_block hb 3 t.d rfl
  have c4 := World.news_of_block hb 4 t.e rfl
  have c5 := World.news_of_block hb 5 t.f rfl
  rw [Addr.add_mid] at c0 c1 c2 c3 c4 c5
  exact ⟨c0, c1, c2, c3, c4, c5⟩
end Go.Proofs.Ytdmonbcinlmljaa

/- Descriptions as they lie in memory: a tree of rows. Bounds on sizes alone. -/
namespace Go.Proofs.Ytdmonbcinlmljaa
open Go.RowKit

abbrev R64 (n : Int) : Prop := -9223372036854775808 ≤ n ∧ n ≤ 9223372036854775807
/-- The slice v reads as rules in names. -/
def RuR (w : World) (v : Value) (rs : List Gr) : Prop := ∃ l : List PV, PRd w v l ∧ l.length = rs.length ∧ ∀ (i : Nat) (t : PV) (r : Gr), l[i]? = some t → rs[i]? = some r → Rd w t.1 (ss r.1) ∧ t.2 = .string (ba r.2)
theorem RuR.at {w w' : World} {v : Value} {rs : List Gr} (h : RuR w v rs) (hb : Below w.heap.size w w') : RuR w' v rs := by
  obtain ⟨l, h1, h2, h3⟩ := h
  exact ⟨l, h1.at hb, h2, fun i t r ht hr => ⟨(h3 i t r ht hr).1.at hb, (h3 i t r ht hr).2⟩⟩
theorem rur_nil (w : World) : RuR w (.slice none 0 0) [] := ⟨[], prd_nil w, rfl, fun i t r ht => by simp at ht⟩
/-- No string is longer than what there is. -/
def Ok (l : List Str) : Prop := ∀ y ∈ l, y.length ≤ 9223372036854775807
def OkR (rs : List Gr) : Prop := ∀ r ∈ rs, Ok r.1 ∧ r.2.length ≤ 9223372036854775807 ∧ r.1.length ≤ 8796093021952
/-- The cells of a description. -/
structure LX where
  k : Int
  lo : Int
  hi : Int
  vn : Value
  vp : Value
  vr : Value
def LX.q (x : LX) : SxV := ⟨.int .i64 x.k, .int .i64 x.lo, .int .i64 x.hi, x.vn, x.vp, x.vr⟩
def LX.val (x : LX) : Value := .agg #[.int .i64 x.k, .int .i64 x.lo, .int .i64 x.hi, x.vn, x.vp, x.vr]
/-- The cells x are the description t. -/
inductive LD (w : World) : LX → Lat → Prop
  | mk {x : LX} {t : Lat} (ps : List LX) (hk : x.k = t.k) (hlo : x.lo = t.lo) (hhi : x.hi = t.hi) (rk : R64 x.k) (rlo : R64 x.lo) (rhi : R64 x.hi)
      (hn : Rd w x.vn (ss t.ns)) (on : Ok t.ns) (hr : RuR w x.vr t.rs) (or : OkR t.rs) (hp : SxRd w x.vp (ps.map LX.q)) (hl : ps.length = t.ps.length)
      (hd : ∀ (i : Nat) (y : LX) (u : Lat), ps[i]? = some y → t.ps[i]? = some u → LD w y u) : LD w x t
theorem LD.at {w w' : World} {x : LX} {t : Lat} (h : LD w x t) (hb : Below w.heap.size w w') : LD w' x t := by
  induction h with
  | mk ps hk hlo hhi rk rlo rhi hn on hr or hp hl hd ih => exact .mk ps hk hlo hhi rk rlo rhi (hn.at hb) on (hr.at hb) or (hp.at hb) hl ih
/-- The slice v reads as the descriptions ts. -/
def LDs (w : World) (v : Value) (ts : List Lat) : Prop := ∃ ps : List LX, SxRd w v (ps.map LX.q) ∧ ps.length = ts.length ∧ ∀ (i : Nat) (y : LX) (u : Lat), ps[i]? = some y → ts[i]? = some u → LD w y u
theorem LDs.at {w w' : World} {v : Value} {ts : List Lat} (h : LDs w v ts) (hb : Below w.heap.size w w') : LDs w' v ts := by
  obtain ⟨ps, h1, h2, h3⟩ := h
  exact ⟨ps, h1.at hb, h2, fun i y u hy hu => (h3 i y u hy hu).at hb⟩
theorem lds_nil (w : World) : LDs w (.slice none 0 0) [] := ⟨[], sxrd_nil w, rfl, fun i y u hy => by simp at hy⟩
/-- A description, its fields apart. -/
structure LO (w : World) (k lo hi : Int) (an : Option Addr) (nn cn : Nat) (ap : Option Addr) (np cp : Nat) (ar : Option Addr) (nr cr : Nat) (t : Lat) : Prop where
  hk : k = t.k
  hlo : lo = t.lo
  hhi : hi = t.hi
  rk : R64 k
  rlo : R64 lo
  rhi : R64 hi
  n : Rd w (.slice an nn cn) (ss t.ns)
  on : Ok t.ns
  ln : nn = t.ns.length
  p : LDs w (.slice ap np cp) t.ps
  lp : np = t.ps.length
  r : RuR w (.slice ar nr cr) t.rs
  or : OkR t.rs
  lr : nr = t.rs.length
theorem LDs.len {w : World} {a : Option Addr} {n c : Nat} {ts : List Lat} (h : LDs w (.slice a n c) ts) : n = ts.length ∧ n ≤ c ∧ c ≤ 9223372036854775807 := by
  obtain ⟨ps, h1, h2, _⟩ := h
  have := h1.cut
  rw [List.length_map] at this
  omega
theorem RuR.len {w : World} {a : Option Addr} {n c : Nat} {rs : List Gr} (h : RuR w (.slice a n c) rs) : n = rs.length ∧ n ≤ c ∧ c ≤ 9223372036854775807 := by
  obtain ⟨l, h1, h2, _⟩ := h
  have := h1.cut
  omega
theorem LD.open {w : World} {x : LX} {t : Lat} (h : LD w x t) : ∃ k lo hi an nn cn ap np cp ar nr cr, x = ⟨k, lo, hi, .slice an nn cn, .slice ap np cp, .slice ar nr cr⟩ ∧ LO w k lo hi an nn cn ap np cp ar nr cr t := by
  obtain ⟨ps, hk, hlo, hhi, rk, rlo, rhi, hn, on, hr, or, hp, hl, hd⟩ := h
  obtain ⟨k, lo, hi, vn, vp, vr⟩ := x
  have hn0 := hn
  have hr0 := hr
  have hp0 : LDs w vp t.ps := ⟨ps, hp, hl, hd⟩
  obtain ⟨an, cn, rfl, _⟩ := hn
  obtain ⟨lr, ⟨ar, cr, rfl, _⟩, _⟩ := hr
  obtain ⟨ap, cp, rfl, _⟩ := hp
  exact ⟨_, _, _, _, _, _, _, _, _, _, _, _, rfl, hk, hlo, hhi, rk, rlo, rhi, hn0, on, (rds_open hn0).1, hp0, hp0.len.1, hr0, or, hr0.len.1⟩
theorem LO.ld {w : World} {k lo hi : Int} {an : Option Addr} {nn cn : Nat} {ap : Option Addr} {np cp : Nat} {ar : Option Addr} {nr cr : Nat} {t : Lat} (h : LO w k lo hi an nn cn ap np cp ar nr cr t) : LD w ⟨k, lo, hi, .slice an nn cn, .slice ap np cp, .slice ar nr cr⟩ t := by
  obtain ⟨ps, h1, h2, h3⟩ := h.p
  exact .mk ps h.hk h.hlo h.hhi h.rk h.rlo h.rhi h.n h.on h.r h.or h1 h2 h3
theorem LO.at {w w' : World} {k lo hi : Int} {an : Option Addr} {nn cn : Nat} {ap : Option Addr} {np cp : Nat} {ar : Option Addr} {nr cr : Nat} {t : Lat} (h : LO w k lo hi an nn cn ap np cp ar nr cr t) (hb : Below w.heap.size w w') : LO w' k lo hi an nn cn ap np cp ar nr cr t :=
  ⟨h.hk, h.hlo, h.hhi, h.rk, h.rlo, h.rhi, h.n.at hb, h.on, h.ln, h.p.at hb, h.lp, h.r.at hb, h.or, h.lr⟩
/-- A part of a row of descriptions. -/
theorem LDs.get {w : World} {a : Option Addr} {n c : Nat} {ts : List Lat} (h : LDs w (.slice a n c) ts) {i : Nat} {t : Lat} (hi : ts[i]? = some t) :
    ∃ (g o : Nat) (k lo hi : Int) (an : Option Addr) (nn cn : Nat) (ap : Option Addr) (np cp : Nat) (ar : Option Addr) (nr cr : Nat), a = some ⟨g, o, none⟩ ∧ LO w k lo hi an nn cn ap np cp ar nr cr t ∧
      ∀ w', Below w.heap.size w w' → w'.cell? ⟨g, o + i * 6, none⟩ = some (.int .i64 k) ∧ w'.cell? ⟨g, o + i * 6 + 1, none⟩ = some (.int .i64 lo) ∧ w'.cell? ⟨g, o + i * 6 + 2, none⟩ = some (.int .i64 hi) ∧ w'.cell? ⟨g, o + i * 6 + 3, none⟩ = some (.slice an nn cn) ∧ w'.cell? ⟨g, o + i * 6 + 4, none⟩ = some (.slice ap np cp) ∧ w'.cell? ⟨g, o + i * 6 + 5, none⟩ = some (.slice ar nr cr) := by
  obtain ⟨ps, h1, h2, h3⟩ := h
  have hil := (List.getElem?_eq_some_iff.1 hi).1
  obtain ⟨y, hy⟩ : ∃ y, ps[i]? = some y := ⟨_, List.getElem?_eq_getElem (by omega)⟩
  obtain ⟨k, lo, hi', an, nn, cn, ap, np, cp, ar, nr, cr, rfl, ho⟩ := (h3 i _ t hy hi).open
  have e : (ps.map LX.q)[i]? = some (LX.q ⟨k, lo, hi', .slice an nn cn, .slice ap np cp, .slice ar nr cr⟩) := by rw [List.getElem?_map, hy]; rfl
  obtain ⟨g, o, e1, _⟩ := h1.get e
  refine ⟨g, o, k, lo, hi', an, nn, cn, ap, np, cp, ar, nr, cr, e1, ho, fun w' hb => ?_⟩
  obtain ⟨g', o', e2, r⟩ := (h1.at hb).get e
  rw [e1] at e2
  simp only [Option.some.injEq, Addr.mk.injEq, and_true] at e2
  obtain ⟨rfl, rfl⟩ := e2
  exact r
end Go.Proofs.Ytdmonbcinlmljaa

/- The Writer during a call: what it holds, and what else has stayed. Bounds on sizes alone. -/
namespace Go.Proofs.Ytdmonbcinlmljaa
open Go.RowKit

/-- From wa to w the Writer alone has turned; it holds l. -/
structure WK (B b : Nat) (wa : World) (va : Value) (w : World) (l : List Int) : Prop where
  ex : ∃ v, Wr.Wst B b w v l ∧ Wr.Kept (fun k => k = b ∨ va.ownBlock = some k) wa w ∧ (v.ownBlock = va.ownBlock ∨ ∀ g, v.ownBlock = some g → wa.heap.size ≤ g)
  hb : B ≤ b
  hB : B ≤ wa.heap.size
  hv : ∀ g, va.ownBlock = some g → B ≤ g
section
variable {B b : Nat} {wa w w' : World} {va v : Value} {l l' : List Int}
theorem WK.start (h : Wr.Wst B b w v l) (hb : B ≤ b) (hB : B ≤ w.heap.size) : WK B b w v w l :=
  ⟨⟨v, h, Wr.Kept.refl _ _, .inl rfl⟩, hb, hB, fun g hg => (h.own.lt g hg).1⟩
theorem WK.bel (h : WK B b wa va w l) : Below B wa w := by
  obtain ⟨v, _, h2, _⟩ := h.ex
  refine h2.below h.hB fun k hk => ?_
  rcases hk with rfl | hk
  · exact h.hb
  · exact h.hv k hk
theorem WK.size (h : WK B b wa va w l) : wa.heap.size ≤ w.heap.size := h.bel.size
theorem WK.step (h : WK B b wa va w l) (h1 : Wr.Wst B b w v l) (h0 : Wr.Kept (fun k => k = b ∨ va.ownBlock = some k) wa w) (h2 : v.ownBlock = va.ownBlock ∨ ∀ g, v.ownBlock = some g → wa.heap.size ≤ g) (k : WK B b w v w' l') : WK B b wa va w' l' := by
  obtain ⟨v', k1, k2, k3⟩ := k.ex
  exact ⟨⟨v', k1, Wr.kept_two h0 k2 h2, Wr.own_two h0.size h2 k3⟩, h.hb, h.hB, h.hv⟩
/-- A call that starts behind. -/
theorem WK.call (h : WK B b wa va w l) {f : Nat} {args : Array Value} {E : Ending} (hc : ∀ v, Wr.Wst B b w v l → Calls Try.prog f args w fun e w' => e = E ∧ WK B b w v w' l') : Calls Try.prog f args w fun e w' => e = E ∧ WK B b wa va w' l' := by
  obtain ⟨v, h1, h2, h3⟩ := h.ex
  exact (hc v h1).mono fun e w' ⟨q1, q2⟩ => ⟨q1, h.step h1 h2 h3 q2⟩
theorem WK.alloc (h : WK B b wa va w l) (o : Obj) : WK B b wa va (w.alloc o) l := by
  obtain ⟨v, h1, h2, h3⟩ := h.ex
  have b0 := bel_alloc w o
  exact ⟨⟨v, h1.alloc o, ⟨h2.os, h2.tape, h2.output, Nat.le_trans h2.size b0.size, fun k hk hn => (b0.block k (Nat.lt_of_lt_of_le hk h2.size)).trans (h2.block k hk hn)⟩, h3⟩, h.hb, h.hB, h.hv⟩
/-- The anchor a block earlier. -/
theorem WK.of_alloc {o : Obj} (h : WK B b (wa.alloc o) va w l) (hB : B ≤ wa.heap.size) : WK B b wa va w l := by
  obtain ⟨v, h1, h2, h3⟩ := h.ex
  exact ⟨⟨v, h1, h2.of_alloc, h3.imp_right fun h g hg => Nat.le_trans (by simp) (h g hg)⟩, h.hb, hB, h.hv⟩
theorem WK.blk (h : WK B b wa va w l) {k : Nat} (hk : k < wa.heap.size) (h1 : k ≠ b) (h2 : va.ownBlock ≠ some k) : w.heap[k]? = wa.heap[k]? := by
  obtain ⟨v, _, h3, _⟩ := h.ex
  refine h3.block k hk fun hs => ?_
  rcases hs with rfl | hs
  · exact h1 rfl
  · exact h2 hs
theorem uint_wk (n : Nat) (h : WK B b wa va w l) (hn : n < 18446744073709551616) (hl : l.length ≤ 60000000000000) :
    Calls Try.prog 49 #[.pointer (some ⟨b, 0, none⟩), .int .u64 n] w fun e w' => e = .returned (.tuple #[]) ∧ WK B b wa va w' (l ++ Wr.enc n) :=
  h.call fun v hv => (Wr.uint_any n b B v l w hn hv (by omega) (Nat.le_trans h.hB h.size)).mono fun e w' ⟨q1, v', q2⟩ => ⟨q1, ⟨v', q2⟩, h.hb, Nat.le_trans h.hB h.size, fun g hg => (hv.own.lt g hg).1⟩
theorem int_wk (n : Int) (h : WK B b wa va w l) (hn : R64 n) (hl : l.length ≤ 60000000000000) :
    Calls Try.prog 50 #[.pointer (some ⟨b, 0, none⟩), .int .i64 n] w fun e w' => e = .returned (.tuple #[]) ∧ WK B b wa va w' (l ++ Wr.enc (Wr.zig n)) :=
  h.call fun v hv => (Wr.int_any n b B v l w hn.1 hn.2 hv (by omega) (Nat.le_trans h.hB h.size)).mono fun e w' ⟨q1, v', q2⟩ => ⟨q1, ⟨v', q2⟩, h.hb, Nat.le_trans h.hB h.size, fun g hg => (hv.own.lt g hg).1⟩
theorem text_wk (x : Str) (bx : ByteArray) (hbx : bx = ba x) (h : WK B b wa va w l) (hx : x.length ≤ 16) (hl : l.length ≤ 60000000000000) :
    Calls Try.prog 52 #[.pointer (some ⟨b, 0, none⟩), .string bx] w fun e w' => e = .returned (.tuple #[]) ∧ WK B b wa va w' (l ++ txE x) := by
  subst hbx
  have hs : (ba x).size = x.length := by simp [ba, ByteArray.size]
  refine h.call fun v hv => (Wr.text_any (ba x) b B v l w hv (by omega) (by omega) (Nat.le_trans h.hB h.size)).mono fun e w' ⟨q1, v', q2⟩ => ⟨q1, ⟨v', ?_⟩, h.hb, Nat.le_trans h.hB h.size, fun g hg => (hv.own.lt g hg).1⟩
  rw [hs, List.append_assoc] at q2
  exact q2
end
end Go.Proofs.Ytdmonbcinlmljaa

/- writeNames. Bounds on sizes alone. -/
namespace Go.Proofs.Ytdmonbcinlmljaa
open Go.RowKit
set_option maxRecDepth 100000

theorem take_snocL {α : Type} {l : List α} {i : Nat} {x : α} (h : l[i]? = some x) : l.take (i + 1) = l.take i ++ [x] := by rw [List.take_add_one, h]; rfl
theorem flat_take {α : Type} (f : α → List Int) (l : List α) (j : Nat) : (l.flatMap f).length = ((l.take j).flatMap f).length + ((l.drop j).flatMap f).length := by
  rw [← List.length_append, ← List.flatMap_append, List.take_append_drop]
theorem wn_any (b : Nat) (an : Option Addr) (nn cn : Nat) (ns : List Str) (w0 w : World) (v : Value) (l : List Int) (R : Rd w0 (.slice an nn cn) (ss ns)) (hsm : ∀ x ∈ ns, x.length ≤ 16) (hn : ns.length ≤ 1000) (hb0 : Below w0.heap.size w0 w) (hb : w0.heap.size ≤ b) (h : Wr.Wst w0.heap.size b w v l) (hl : l.length + (nsE ns).length ≤ 60000000000000) :
    Calls Try.prog 51 #[.pointer (some ⟨b, 0, none⟩), .slice an nn cn] w fun e w' => e = .returned (.tuple #[]) ∧ WK w0.heap.size b w v w' (l ++ nsE ns) := by
  obtain ⟨hnl, h1, h2, h3⟩ := rds_open R
  have HK0 := hid_of (WK.start h hb hb0.size)
  have HC : Hid (∀ j wr, j < nn → Below w0.heap.size w0 wr → ∃ g o x, an = some ⟨g, o, none⟩ ∧ ns[j]? = some x ∧ wr.cell? ⟨g, o + j, none⟩ = some (.string (ba x))) := hid_of (fun j wr hj hb => by
    obtain ⟨x, hx⟩ : ∃ x, ns[j]? = some x := ⟨_, List.getElem?_eq_getElem (by omega)⟩
    obtain ⟨g, o, e, hg, hc⟩ := h3.resolve_left (fun e => by rw [e] at hx; simp at hx)
    exact ⟨g, o, x, e, hx, (hb.cell (p := ⟨g, o + j, none⟩) hg).trans (hc j x hx)⟩)
  have C0 := hid_of (uint_wk nn HK0.out (by omega) (by omega))
  have HSM := hid_of hsm
  have HNL := hid_of hnl
  have HL := hid_of hl
  have HB0 := hid_of hb0
  have HE : Hid (nsE ns = Wr.enc nn ++ ns.flatMap txE) := hid_of (by rw [hnl]; rfl)
  have hn6 : nn ≤ 1000 := by omega
  clear R hsm hn hb0 hb h hl h3 hnl
  go_enter Try.func51, Try.ntmps51
  go_wp2_with (go_at_call 49; ((with_reducible refine (C0.out).mono ?_); (rintro e w1 ⟨rfl, q1⟩)); have K1 := hid_of q1; clear q1)
  go_loopw [5, 13] (fun sv iv wr => ∃ (j : Nat) (x5 : Value), sv = x5 ∧ j ≤ nn ∧ iv = .int .i64 j ∧ Hid (WK w0.heap.size b w v wr (l ++ Wr.enc nn ++ (ns.take j).flatMap txE))) (fun _ iv _ => nn - (intOf iv).toNat)
  case atStart => exact ⟨0, _, rfl, Nat.zero_le _, rfl, hid_of (by rw [List.take_zero]; simpa using K1.out)⟩
  case round =>
    obtain ⟨j, x5, rfl, hj, rfl, hk⟩ := hrel
    by_cases hlt : j < nn
    · have hd : decide (j < nn) = true := by simp; omega
      obtain ⟨g, o, x, rfl, hx, c0⟩ := HC.out j wr hlt (HB0.out.trans (hk.out.bel.mono (Nat.le_refl _)))
      have CT := hid_of (text_wk x _ rfl hk.out (HSM.out x (List.mem_of_getElem? hx)) (by
        have h1 := HL.out
        have h2 := flat_take txE ns j
        rw [HE.out] at h1
        simp only [List.length_append] at h1 h2 ⊢
        omega))
      have HNX : Hid (l ++ Wr.enc nn ++ (ns.take j).flatMap txE ++ txE x = l ++ Wr.enc nn ++ (ns.take (j + 1)).flatMap txE) := hid_of (by rw [take_snocL hx, List.flatMap_append, List.flatMap_singleton, ← List.append_assoc])
      obtain ⟨bx, hbx⟩ : ∃ bx, bx = ba x := ⟨_, rfl⟩
      rw [← hbx] at c0 CT
      clear hx hbx
      go_wp2_with (go_at_call 52; ((with_reducible refine (CT.out).mono ?_); (rintro e w2 ⟨rfl, q1⟩)); have K2 := hid_of q1; clear q1)
      go_roundw
      case rel => exact ⟨j + 1, _, rfl, by omega, by go_num, hid_of (by rw [← HNX.out]; exact K2.out)⟩
      case measure => simp [intOf]; omega
    · have hd : decide (j < nn) = false := by simp; omega
      have HF : Hid (WK w0.heap.size b w v wr (l ++ nsE ns)) := hid_of (by
        have h1 := hk.out
        rw [List.take_of_length_le (by have := HNL.out; omega), List.append_assoc, ← HE.out] at h1
        exact h1)
      go_wp2
      go_end0
      exact ⟨rfl, HF.out⟩
/-- writeNames, behind. -/
theorem wn_wk {b : Nat} {an : Option Addr} {nn cn : Nat} {ns : List Str} {w0 wa w : World} {va : Value} {l : List Int} (h : WK w0.heap.size b wa va w l) (hb0 : Below w0.heap.size w0 wa) (R : Rd w0 (.slice an nn cn) (ss ns)) (hsm : ∀ x ∈ ns, x.length ≤ 16) (hn : ns.length ≤ 1000) (hl : l.length + (nsE ns).length ≤ 60000000000000) :
    Calls Try.prog 51 #[.pointer (some ⟨b, 0, none⟩), .slice an nn cn] w fun e w' => e = .returned (.tuple #[]) ∧ WK w0.heap.size b wa va w' (l ++ nsE ns) :=
  h.call fun v hv => wn_any b an nn cn ns w0 w v l R hsm hn (hb0.trans h.bel) h.hb hv hl
end Go.Proofs.Ytdmonbcinlmljaa

/- Depth of package lattice. Bounds on the depth and on sizes alone. -/
namespace Go.Proofs.Ytdmonbcinlmljaa
open Go.RowKit

theorem depthsL_get : ∀ (l : List Lat) (i : Nat) (p : Lat), l[i]? = some p → depthL p ≤ depthsL l := by
  intro l
  induction l with
  | nil => intro i p h; simp at h
  | cons q l ih =>
    intro i p h
    rw [depthsL]
    cases i with
    | zero => simp at h; subst h; omega
    | succ i => have := ih i p (by simpa using h); omega
theorem depthsL_snoc : ∀ (l : List Lat) (p : Lat), depthsL (l ++ [p]) = max (depthsL l) (depthL p) := by
  intro l
  induction l with
  | nil => intro p; simp [depthsL]
  | cons q l ih => intro p; simp only [List.cons_append, depthsL, ih]; omega
theorem depthsL_take : ∀ (l : List Lat) (i : Nat), depthsL (l.take i) ≤ depthsL l := by
  intro l
  induction l with
  | nil => intro i; simp
  | cons p l ih =>
    intro i
    cases i with
    | zero => simp [depthsL]
    | succ i => have := ih i; simp only [List.take_succ_cons, depthsL]; omega
theorem depthL_eq (t : Lat) : depthL t = depthsL t.ps + 1 := by cases t; rw [depthL]; rfl
theorem take_next {α : Type} {l : List α} {i : Nat} {p : α} (h : l[i]? = some p) : l.take (i + 1) = l.take i ++ [p] := by
  rw [List.take_add_one, h]; rfl
def DepP (t : Lat) (w : World) (e : Ending) (w' : World) : Prop := e = .returned (.int .i64 (depthL t : Nat)) ∧ Below w.heap.size w w'
set_option maxRecDepth 100000 in
set_option maxHeartbeats 3200000 in
theorem depth_any : ∀ (t : Lat) (k lo hi : Int) (an : Option Addr) (nn cn : Nat) (ap : Option Addr) (np cp : Nat) (ar : Option Addr) (nr cr : Nat) (w : World), LO w k lo hi an nn cn ap np cp ar nr cr t → depthL t ≤ 1000 → Calls Try.prog 17 #[.agg #[.int .i64 k, .int .i64 lo, .int .i64 hi, .slice an nn cn, .slice ap np cp, .slice ar nr cr]] w (DepP t w) := by
  refine lat_ind ?_
  intro k' lo' hi' ns' ps' rs' ih k lo hi an nn cn ap np cp ar nr cr w H hD
  rw [depthL_eq] at hD
  have hl := H.p.len
  have HN : Hid (np = ps'.length) := hid_of hl.1
  have hn : np ≤ 9223372036854775807 := by omega
  have HP := hid_of H.p
  have HD := hid_of hD
  have IH := hid_of ih
  simp only [Lat.ps] at HP HD
  have HE : Hid (depthL ⟨k', lo', hi', ns', ps', rs'⟩ = depthsL ps' + 1) := hid_of (depthL_eq _)
  generalize (Lat.mk k' lo' hi' ns' ps' rs') = T at HE
  clear hl H hD ih
  go_enter Try.func17, Try.ntmps17
  go_wp2
  go_loopw [3, 9] (fun mv iv wr => ∃ i m : Nat, iv = .int .i64 i ∧ i ≤ np ∧ mv = .int .i64 m ∧ Hid (m = depthsL (ps'.take i)) ∧ Hid (Below w.heap.size w wr)) (fun _ iv _ => np - (intOf iv).toNat)
  case atStart => exact ⟨0, 0, rfl, Nat.zero_le _, rfl, hid_of rfl, hid_of (bel_alloc _ _)⟩
  case round =>
    obtain ⟨i, m, rfl, hi, rfl, HM, hb⟩ := hrel
    by_cases hlt : i < np
    · have d1 : decide (i < np) = true := decide_eq_true hlt
      have hlt' : (i : Int) < (np : Int) := by omega
      have HLT := hid_of hlt
      obtain ⟨u, hu⟩ : ∃ u, ps'[i]? = some u := ⟨_, List.getElem?_eq_getElem (by have := HN.out; omega)⟩
      obtain ⟨g, o, kA, loA, hiA, anA, nnA, cnA, apA, npA, cpA, arA, nrA, crA, rfl, LU, hc⟩ := HP.out.get hu
      obtain ⟨c0, c1, c2, c3, c4, c5⟩ := hc wr hb.out
      have hdu := depthsL_get _ _ _ hu
      obtain ⟨q, hq⟩ : ∃ q, q = depthL u := ⟨_, rfl⟩
      have hm : m ≤ 1000 := by
        rw [HM.out]
        have := depthsL_take ps' i
        have := HD.out
        omega
      have hqm : q ≤ 1000 := by have := HD.out; omega
      have CALL := hid_of (IH.out u (List.mem_of_getElem? hu) kA loA hiA anA nnA cnA apA npA cpA arA nrA crA)
      have HS : Hid (depthsL (ps'.take (i + 1)) = max m q) := hid_of (by rw [take_next hu, depthsL_snoc, HM.out, hq])
      have HQ := hid_of hq
      have LV := hid_of LU
      clear hlt hc hu hdu hq LU
      go_wp2_with (go_at_call 17; ((with_reducible refine (CALL.out _ (LV.out.at (hb.out.alloc hb.out.size _)) (Nat.le_trans (Nat.le_of_eq HQ.out.symm) hqm)).mono ?_); (rintro e w2 ⟨rfl, h2⟩)); (rw [← HQ.out]); (have H2 := hid_of h2); clear h2)
      go_roundw
      case rel => exact ⟨i + 1, max m q, by go_num, HLT.out, by go_num, hid_of HS.out.symm, hid_of ((hb.out.alloc hb.out.size _).trans (H2.out.mono (by simp; exact Nat.le_succ_of_le hb.out.size)))⟩
      case measure => have := HLT.out; simp [intOf]; omega
    · have d1 : decide (i < np) = false := decide_eq_false hlt
      have HI : Hid (i = np) := hid_of (by omega)
      have hm : m ≤ 1000 := by
        rw [HM.out]
        have := depthsL_take ps' i
        have := HD.out
        omega
      go_wp2
      go_ret
      refine ⟨?_, hb.out⟩
      rw [HE.out]
      have h1 := HM.out
      rw [HI.out, HN.out, List.take_length] at h1
      rw [h1]
      go_num
end Go.Proofs.Ytdmonbcinlmljaa

/- all of package lattice, over whatever function. Bounds on sizes alone. -/
namespace Go.Proofs.Ytdmonbcinlmljaa
open Go.RowKit

def BoP (b : Bool) (w : World) (e : Ending) (w' : World) : Prop := e = .returned (.bool b) ∧ Below w.heap.size w w'
theorem all_yes {f : Lat → Bool} {l : List Lat} {n : Nat} (hn : n = l.length) (h : ∀ i, i < n → ∀ p, l[i]? = some p → f p = true) : l.all f = true := by
  rw [List.all_eq_true]
  intro p hp
  obtain ⟨i, hi⟩ := List.getElem?_of_mem hp
  exact h i (by have := (List.getElem?_eq_some_iff.1 hi).1; omega) p hi
theorem all_no {f : Lat → Bool} {l : List Lat} {i : Nat} {p : Lat} (h : l[i]? = some p) (hf : f p = false) : l.all f = false := by
  rw [Bool.eq_false_iff]
  intro h2
  rw [List.all_eq_true] at h2
  rw [h2 p (List.mem_of_getElem? h)] at hf
  cases hf
set_option maxRecDepth 100000 in
set_option maxHeartbeats 3200000 in
theorem all_any (F : Nat) (f : Lat → Bool) (eg : ∀ args w, (callFunc F args).run Try.prog w = .ok (.enter F args) w) (ap : Option Addr) (np cp : Nat) (ts : List Lat) (w : World) (R : LDs w (.slice ap np cp) ts)
    (hF : ∀ p ∈ ts, ∀ (k lo hi : Int) (an : Option Addr) (nn cn : Nat) (ap : Option Addr) (np cp : Nat) (ar : Option Addr) (nr cr : Nat) (w : World), LO w k lo hi an nn cn ap np cp ar nr cr p → Calls Try.prog F #[.agg #[.int .i64 k, .int .i64 lo, .int .i64 hi, .slice an nn cn, .slice ap np cp, .slice ar nr cr]] w (BoP (f p) w)) :
    Calls Try.prog 39 #[.slice ap np cp, .func (.func F) #[] #[]] w (BoP (ts.all f) w) := by
  have hl := R.len
  have HN : Hid (np = ts.length) := hid_of hl.1
  have hn : np ≤ 9223372036854775807 := by omega
  have HP := hid_of R
  have HF := hid_of hF
  clear hl R hF
  go_enter Try.func39, Try.ntmps39
  go_wp2
  go_loopw [9] (fun iv wr => ∃ i : Nat, iv = .int .i64 i ∧ i ≤ np ∧ Hid (∀ j, j < i → ∀ p, ts[j]? = some p → f p = true) ∧ Hid (Below w.heap.size w wr)) (fun iv _ => np - (intOf iv).toNat)
  case atStart => exact ⟨0, rfl, Nat.zero_le _, hid_of (fun j h => absurd h (Nat.not_lt_zero j)), hid_of (Below.refl _ _)⟩
  case round =>
    obtain ⟨i, rfl, hi, HM, hb⟩ := hrel
    by_cases hlt : i < np
    · have d1 : decide (i < np) = true := decide_eq_true hlt
      have hlt' : (i : Int) < (np : Int) := by omega
      have HLT := hid_of hlt
      obtain ⟨u, hu⟩ : ∃ u, ts[i]? = some u := ⟨_, List.getElem?_eq_getElem (by have := HN.out; omega)⟩
      obtain ⟨g, o, kA, loA, hiA, anA, nnA, cnA, apA, npA, cpA, arA, nrA, crA, rfl, LU, hc⟩ := HP.out.get hu
      obtain ⟨c0, c1, c2, c3, c4, c5⟩ := hc wr hb.out
      have CALL := hid_of (HF.out u (List.mem_of_getElem? hu) kA loA hiA anA nnA cnA apA npA cpA arA nrA crA)
      have HU := hid_of hu
      have LV := hid_of LU
      clear hlt hc hu LU
      obtain ⟨b, hb2⟩ : ∃ b, b = f u := ⟨_, rfl⟩
      have HB := hid_of hb2
      rw [← hb2] at CALL
      clear hb2
      cases b
      · go_wp2_with (go_at_fn F; go_loud (refine (CALL.out _ (LV.out.at (hb.out.alloc hb.out.size _))).mono ?_; rintro e w2 ⟨rfl, h2⟩; have H2 := hid_of h2; clear h2))
        go_ret
        exact ⟨ret_b (all_no HU.out HB.out.symm).symm, (hb.out.alloc hb.out.size _).trans (H2.out.mono (by simp; exact Nat.le_succ_of_le hb.out.size))⟩
      · go_wp2_with (go_at_fn F; go_loud (refine (CALL.out _ (LV.out.at (hb.out.alloc hb.out.size _))).mono ?_; rintro e w2 ⟨rfl, h2⟩; have H2 := hid_of h2; clear h2))
        go_roundw
        case rel => exact ⟨i + 1, by go_num, HLT.out, hid_of (fun j hj p hp => by
          by_cases e : j = i
          · subst e
            rw [HU.out] at hp
            cases hp
            exact HB.out.symm
          · exact HM.out j (by omega) p hp), hid_of ((hb.out.alloc hb.out.size _).trans (H2.out.mono (by simp; exact Nat.le_succ_of_le hb.out.size)))⟩
        case measure => have := HLT.out; simp [intOf]; omega
    · have d1 : decide (i < np) = false := decide_eq_false hlt
      have HI : Hid (i = np) := hid_of (by omega)
      go_wp2
      go_ret
      exact ⟨ret_b (all_yes HN.out (fun j hj p hp => HM.out j (by have := HI.out; omega) p hp)).symm, hb.out⟩
end Go.Proofs.Ytdmonbcinlmljaa

/- Finite and Distributive of package lattice. Bounds on sizes alone. -/
namespace Go.Proofs.Ytdmonbcinlmljaa
open Go.RowKit

theorem bo_old {b : Bool} {w w1 w' : World} {e : Ending} (h : e = .returned (.bool b) ∧ Below w1.heap.size w1 w') (hb : Below w.heap.size w w1) : BoP b w e w' :=
  ⟨h.1, hb.trans (h.2.mono hb.size)⟩
theorem gt0 (l : List Str) (n : Nat) (h : n = l.length) : (!l.isEmpty) = decide (0 < n) := by
  cases l <;> simp at h ⊢ <;> omega
set_option maxRecDepth 100000 in
set_option maxHeartbeats 3200000 in
theorem finite_any : ∀ (t : Lat) (k lo hi : Int) (an : Option Addr) (nn cn : Nat) (ap : Option Addr) (np cp : Nat) (ar : Option Addr) (nr cr : Nat) (w : World), LO w k lo hi an nn cn ap np cp ar nr cr t → Calls Try.prog 15 #[.agg #[.int .i64 k, .int .i64 lo, .int .i64 hi, .slice an nn cn, .slice ap np cp, .slice ar nr cr]] w (BoP (finL t) w) := by
  refine lat_ind ?_
  intro k' lo' hi' ns' ps' rs' ih k lo hi an nn cn ap np cp ar nr cr w H
  obtain rfl : k = k' := H.hk
  have HN : Hid (nn = ns'.length) := hid_of H.ln
  have hnn : nn ≤ 9223372036854775807 := by have := (rds_open H.n); omega
  have CALL := hid_of (fun (wz : World) (hz : Below w.heap.size w wz) => all_any 15 finL (enters_of Try.func15 (by kernel_rfl) rfl) ap np cp ps' wz (H.p.at hz) ih)
  rw [← finsL_all] at CALL
  obtain ⟨q, hq⟩ : ∃ q, q = finsL ps' := ⟨_, rfl⟩
  rw [← hq] at CALL
  rw [finL, ← hq, gt0 ns' nn H.ln]
  clear H ih hq
  have HB := hid_of (bel_alloc w (.cells #[.int .i64 k, .int .i64 lo, .int .i64 hi, .slice an nn cn, .slice ap np cp, .slice ar nr cr] 26))
  rcases kinds k with rfl | rfl | rfl | rfl | rfl | rfl | rfl | rfl | rfl | rfl | hx
  case inr.inr.inr.inr.inr.inr.inr.inr.inr.inr =>
    obtain ⟨h1, h2, h3, h4, h5, h6, h7, h8, h9, h10⟩ := hx
    simp only [h1, h2, h3, h4, h5, h6, h7, h8, h10, or_self, if_false]
    go_enter Try.func15, Try.ntmps15
    go_wp2
    go_ret
    exact ⟨rfl, HB.out⟩
  all_goals simp only [Int.reduceEq, or_self, or_false, false_or, or_true, true_or, if_true, if_false]
  case inr.inr.inr.inr.inl =>
    by_cases h0 : nn = 0
    · subst h0
      rw [decide_eq_false (Nat.lt_irrefl 0), Bool.false_and]
      go_enter Try.func15, Try.ntmps15
      go_wp2
      go_ret
      exact ⟨rfl, HB.out⟩
    · have d0 : decide (0 < nn) = true := decide_eq_true (by omega)
      rw [d0, Bool.true_and]
      go_enter Try.func15, Try.ntmps15
      go_wp2_with (go_at_call 39; ((with_reducible refine (CALL.out _ HB.out).mono ?_); (rintro e w2 ⟨rfl, h2⟩)); (have H2 := hid_of h2); clear h2)
      go_ret
      exact ⟨rfl, HB.out.trans (H2.out.mono HB.out.size)⟩
  case inr.inr.inr.inr.inr.inl | inr.inr.inr.inr.inr.inr.inl =>
    go_enter Try.func15, Try.ntmps15
    go_wp2_with (go_at_call 39; ((with_reducible refine (CALL.out _ HB.out).mono ?_); (rintro e w2 ⟨rfl, h2⟩)); (have H2 := hid_of h2); clear h2)
    go_ret
    exact ⟨rfl, HB.out.trans (H2.out.mono HB.out.size)⟩
  all_goals go_enter Try.func15, Try.ntmps15
  all_goals go_wp2
  all_goals go_ret
  all_goals exact ⟨rfl, HB.out⟩
set_option maxRecDepth 100000 in
set_option maxHeartbeats 3200000 in
theorem dist_any : ∀ (t : Lat) (k lo hi : Int) (an : Option Addr) (nn cn : Nat) (ap : Option Addr) (np cp : Nat) (ar : Option Addr) (nr cr : Nat) (w : World), LO w k lo hi an nn cn ap np cp ar nr cr t → Calls Try.prog 16 #[.agg #[.int .i64 k, .int .i64 lo, .int .i64 hi, .slice an nn cn, .slice ap np cp, .slice ar nr cr]] w (BoP (distL t) w) := by
  refine lat_ind ?_
  intro k' lo' hi' ns' ps' rs' ih k lo hi an nn cn ap np cp ar nr cr w H
  obtain rfl : k = k' := H.hk
  have CALL := hid_of (fun (wz : World) (hz : Below w.heap.size w wz) => all_any 16 distL (enters_of Try.func16 (by kernel_rfl) rfl) ap np cp ps' wz (H.p.at hz) ih)
  rw [← distsL_all] at CALL
  obtain ⟨q, hq⟩ : ∃ q, q = distsL ps' := ⟨_, rfl⟩
  rw [← hq] at CALL
  rw [distL, ← hq]
  clear H ih hq
  have HB := hid_of (bel_alloc w (.cells #[.int .i64 k, .int .i64 lo, .int .i64 hi, .slice an nn cn, .slice ap np cp, .slice ar nr cr] 26))
  by_cases h8 : k = 8
  · subst h8
    go_enter Try.func16, Try.ntmps16
    go_wp2
    go_ret
    exact ⟨rfl, HB.out⟩
  by_cases h10 : k = 10
  · subst h10
    go_enter Try.func16, Try.ntmps16
    go_wp2
    go_ret
    exact ⟨rfl, HB.out⟩
  rw [if_neg (by omega)]
  have e8 : (k != 8) = true := bne_iff_ne.2 h8
  have e10 : (k != 10) = true := bne_iff_ne.2 h10
  clear h8 h10
  go_enter Try.func16, Try.ntmps16
  go_wp2_with (go_at_call 39; ((with_reducible refine (CALL.out _ HB.out).mono ?_); (rintro e w2 ⟨rfl, h2⟩)); (have H2 := hid_of h2); clear h2)
  go_ret
  exact ⟨rfl, HB.out.trans (H2.out.mono HB.out.size)⟩
end Go.Proofs.Ytdmonbcinlmljaa

/- Whether two rows of strings are the same: slices.Equal, and the reference's names. Bounds on sizes alone. -/
namespace Go.Proofs.Ytdmonbcinlmljaa
open Go.RowKit

set_option maxRecDepth 100000 in
set_option maxHeartbeats 3200000 in
theorem seqs_any (l m : List Str) (ao bo : Option Addr) (n n2 cap cap2 : Nat) (w : World) (R1 : Rd w (.slice ao n cap) (ss l)) (R2 : Rd w (.slice bo n2 cap2) (ss m)) :
    Calls Try.prog 22 #[.slice ao n cap, .slice bo n2 cap2] w (BoP (decide (l = m)) w) := by
  obtain ⟨hn, _, hcap, h3⟩ := rds_open R1
  obtain ⟨hn2, _, hcap2, k3⟩ := rds_open R2
  obtain ⟨r, hr⟩ : ∃ r, r = decide (l = m) := ⟨_, rfl⟩
  rw [← hr]
  have HR := hid_of hr
  clear hr R1 R2
  by_cases hnn : n = n2
  case neg =>
    have RF : Hid (false = r) := hid_of (by rw [HR.out]; exact (decide_eq_false (fun h => hnn (by rw [hn, hn2, h]))).symm)
    have e1 : (n == n2) = false := beq_eq_false_iff_ne.2 hnn
    have e2 : ((n : Int) == (n2 : Int)) = false := beq_eq_false_iff_ne.2 (by omega)
    have e3 : ((n : Int) != (n2 : Int)) = true := bne_iff_ne.2 (by omega)
    clear hnn hn hn2 h3 k3
    go_enter Try.func22, Try.ntmps22
    go_wp2
    go_ret
    exact ⟨ret_b RF.out, Below.refl _ _⟩
  subst hnn
  have HN := hid_of hn
  have HN2 := hid_of hn2
  have H3 := hid_of h3
  have K3 := hid_of k3
  clear hn hn2 h3 k3
  go_enter Try.func22, Try.ntmps22
  go_wp2
  go_loopw [13] (fun iv wr => ∃ i : Nat, iv = .int .i64 i ∧ i ≤ n ∧ Hid (∀ j, j < i → l[j]? = m[j]?) ∧ Hid (Below w.heap.size w wr)) (fun iv _ => n - (intOf iv).toNat)
  case atStart => exact ⟨0, rfl, Nat.zero_le _, hid_of (fun j h => absurd h (Nat.not_lt_zero j)), hid_of (Below.refl _ _)⟩
  case round =>
    obtain ⟨i, rfl, hi, HM, hb⟩ := hrel
    by_cases hlt : i < n
    · have d1 : decide (i < n) = true := decide_eq_true hlt
      have hlt' : (i : Int) < (n : Int) := by omega
      have HLT := hid_of hlt
      have hl : i < l.length := by have := HN.out; omega
      have hm : i < m.length := by have := HN2.out; omega
      rcases H3.out with h3 | ⟨g, o, rfl, hg, hc⟩
      · exfalso; rw [h3] at hl; simp at hl
      rcases K3.out with k3 | ⟨g2, o2, rfl, hg2, hc2⟩
      · exfalso; rw [k3] at hm; simp at hm
      have c1 := (hb.out.cell (p := ⟨g, o + i, none⟩) hg).trans (hc i _ (List.getElem?_eq_getElem hl))
      have c2 := (hb.out.cell (p := ⟨g2, o2 + i, none⟩) hg2).trans (hc2 i _ (List.getElem?_eq_getElem hm))
      obtain ⟨bx, hx⟩ : ∃ bx, bx = ba l[i] := ⟨_, rfl⟩
      obtain ⟨by', hy⟩ : ∃ by', by' = ba m[i] := ⟨_, rfl⟩
      rw [← hx] at c1
      rw [← hy] at c2
      by_cases he : l[i] = m[i]
      · have et := eq_t hx hy he
        have HE : Hid (∀ j, j < i + 1 → l[j]? = m[j]?) := hid_of (fun j hj => by
          by_cases e : j = i
          · subst e; rw [List.getElem?_eq_getElem hl, List.getElem?_eq_getElem hm, he]
          · exact HM.out j (by omega))
        clear hlt hc hc2 hx hy he hl hm H3 K3 hg hg2 HM
        go_wp2
        go_quiet (fail)
        go_wp2
        go_roundw
        case rel => exact ⟨i + 1, by go_num, HLT.out, HE, hid_of (bel_drewN hb.out _)⟩
        case measure => have := HLT.out; simp [intOf]; omega
      · have et := eq_f hx hy he
        have RF : Hid (false = r) := hid_of (by
          rw [HR.out]
          refine (decide_eq_false fun h => he ?_).symm
          subst h; rfl)
        clear hlt hc hc2 hx hy he hl hm H3 K3 hg hg2 HM
        go_wp2
        go_quiet (fail)
        go_wp2
        go_ret
        exact ⟨ret_b RF.out, bel_drewN hb.out _⟩
    · have d1 : decide (i < n) = false := decide_eq_false hlt
      have RT : Hid (true = r) := hid_of (by
        rw [HR.out]
        refine (decide_eq_true ?_).symm
        refine List.ext_getElem? fun j => ?_
        by_cases hj : j < n
        · exact HM.out j (by omega)
        · rw [List.getElem?_eq_none (by have := HN.out; omega), List.getElem?_eq_none (by have := HN2.out; omega)])
      go_wp2
      go_ret
      exact ⟨ret_b RT.out, hb.out⟩

set_option maxRecDepth 100000 in
set_option maxHeartbeats 3200000 in
theorem rnames_any (l m : List Str) (ao bo : Option Addr) (n n2 cap cap2 : Nat) (w : World) (R1 : Rd w (.slice ao n cap) (ss l)) (R2 : Rd w (.slice bo n2 cap2) (ss m)) :
    Calls Try.prog 36 #[.slice ao n cap, .slice bo n2 cap2] w (BoP (decide (l = m)) w) := by
  obtain ⟨hn, _, hcap, h3⟩ := rds_open R1
  obtain ⟨hn2, _, hcap2, k3⟩ := rds_open R2
  obtain ⟨r, hr⟩ : ∃ r, r = decide (l = m) := ⟨_, rfl⟩
  rw [← hr]
  have HR := hid_of hr
  clear hr R1 R2
  by_cases hnn : n = n2
  case neg =>
    have RF : Hid (false = r) := hid_of (by rw [HR.out]; exact (decide_eq_false (fun h => hnn (by rw [hn, hn2, h]))).symm)
    have e1 : (n == n2) = false := beq_eq_false_iff_ne.2 hnn
    have e2 : ((n : Int) == (n2 : Int)) = false := beq_eq_false_iff_ne.2 (by omega)
    have e3 : ((n : Int) != (n2 : Int)) = true := bne_iff_ne.2 (by omega)
    clear hnn hn hn2 h3 k3
    go_enter Try.func36, Try.ntmps36
    go_wp2
    go_ret
    exact ⟨ret_b RF.out, Below.refl _ _⟩
  subst hnn
  have HN := hid_of hn
  have HN2 := hid_of hn2
  have H3 := hid_of h3
  have K3 := hid_of k3
  clear hn hn2 h3 k3
  go_enter Try.func36, Try.ntmps36
  go_wp2
  go_loopw [5] (fun iv wr => ∃ i : Nat, iv = .int .i64 i ∧ i ≤ n ∧ Hid (∀ j, j < i → l[j]? = m[j]?) ∧ Hid (Below w.heap.size w wr)) (fun iv _ => n - (intOf iv).toNat)
  case atStart => exact ⟨0, rfl, Nat.zero_le _, hid_of (fun j h => absurd h (Nat.not_lt_zero j)), hid_of (Below.refl _ _)⟩
  case round =>
    obtain ⟨i, rfl, hi, HM, hb⟩ := hrel
    by_cases hlt : i < n
    · have d1 : decide (i < n) = true := decide_eq_true hlt
      have hlt' : (i : Int) < (n : Int) := by omega
      have HLT := hid_of hlt
      have hl : i < l.length := by have := HN.out; omega
      have hm : i < m.length := by have := HN2.out; omega
      rcases H3.out with h3 | ⟨g, o, rfl, hg, hc⟩
      · exfalso; rw [h3] at hl; simp at hl
      rcases K3.out with k3 | ⟨g2, o2, rfl, hg2, hc2⟩
      · exfalso; rw [k3] at hm; simp at hm
      have c1 := (hb.out.cell (p := ⟨g, o + i, none⟩) hg).trans (hc i _ (List.getElem?_eq_getElem hl))
      have c2 := (hb.out.cell (p := ⟨g2, o2 + i, none⟩) hg2).trans (hc2 i _ (List.getElem?_eq_getElem hm))
      obtain ⟨bx, hx⟩ : ∃ bx, bx = ba l[i] := ⟨_, rfl⟩
      obtain ⟨by', hy⟩ : ∃ by', by' = ba m[i] := ⟨_, rfl⟩
      rw [← hx] at c1
      rw [← hy] at c2
      by_cases he : l[i] = m[i]
      · have et := eq_t hx hy he
        have HE : Hid (∀ j, j < i + 1 → l[j]? = m[j]?) := hid_of (fun j hj => by
          by_cases e : j = i
          · subst e; rw [List.getElem?_eq_getElem hl, List.getElem?_eq_getElem hm, he]
          · exact HM.out j (by omega))
        clear hlt hc hc2 hx hy he hl hm H3 K3 hg hg2 HM
        go_wp2
        go_quiet (fail)
        go_wp2
        go_roundw
        case rel => exact ⟨i + 1, by go_num, HLT.out, HE, hid_of (bel_drewN hb.out _)⟩
        case measure => have := HLT.out; simp [intOf]; omega
      · have et := eq_f hx hy he
        have RF : Hid (false = r) := hid_of (by
          rw [HR.out]
          refine (decide_eq_false fun h => he ?_).symm
          subst h; rfl)
        clear hlt hc hc2 hx hy he hl hm H3 K3 hg hg2 HM
        go_wp2
        go_quiet (fail)
        go_wp2
        go_ret
        exact ⟨ret_b RF.out, bel_drewN hb.out _⟩
    · have d1 : decide (i < n) = false := decide_eq_false hlt
      have RT : Hid (true = r) := hid_of (by
        rw [HR.out]
        refine (decide_eq_true ?_).symm
        refine List.ext_getElem? fun j => ?_
        by_cases hj : j < n
        · exact HM.out j (by omega)
        · rw [List.getElem?_eq_none (by have := HN.out; omega), List.getElem?_eq_none (by have := HN2.out; omega)])
      go_wp2
      go_ret
      exact ⟨ret_b RT.out, hb.out⟩

end Go.Proofs.Ytdmonbcinlmljaa

/- Rows of rules: equalRules, slices.EqualFunc over rules and over descriptions. Bounds on sizes alone. -/
namespace Go.Proofs.Ytdmonbcinlmljaa
open Go.RowKit

theorem RuR.get {w : World} {ao : Option Addr} {n c : Nat} {rs : List Gr} (h : RuR w (.slice ao n c) rs) {i : Nat} {r : Gr} (hi : rs[i]? = some r) :
    ∃ (g o : Nat) (a : Option Addr) (k d : Nat), ao = some ⟨g, o, none⟩ ∧ Rd w (.slice a k d) (ss r.1) ∧ ∀ w', Below w.heap.size w w' → w'.cell? ⟨g, o + i * 2, none⟩ = some (.slice a k d) ∧ w'.cell? ⟨g, o + i * 2 + 1, none⟩ = some (.string (ba r.2)) := by
  obtain ⟨l, h1, h2, h3⟩ := h
  have hil := (List.getElem?_eq_some_iff.1 hi).1
  obtain ⟨t, ht⟩ : ∃ t, l[i]? = some t := ⟨_, List.getElem?_eq_getElem (by omega)⟩
  obtain ⟨q1, q2⟩ := h3 i t r ht hi
  obtain ⟨t1, t2⟩ := t
  simp only at q1 q2
  have q0 := q1
  obtain ⟨a, d, rfl, _⟩ := q1
  subst q2
  obtain ⟨g, o, e1, _⟩ := h1.get ht
  refine ⟨g, o, a, _, d, e1, q0, fun w' hb => ?_⟩
  obtain ⟨g', o', e2, r⟩ := (h1.at hb).get ht
  rw [e1] at e2
  simp only [Option.some.injEq, Addr.mk.injEq, and_true] at e2
  obtain ⟨rfl, rfl⟩ := e2
  exact r
theorem gr_dec (a b : Gr) : decide (a = b) = (decide (a.2 = b.2) && decide (a.1 = b.1)) := by
  obtain ⟨a1, a2⟩ := a
  obtain ⟨b1, b2⟩ := b
  simp only [Prod.mk.injEq, Bool.decide_and]
  exact Bool.and_comm _ _
set_option maxRecDepth 100000 in
theorem eqrule_any (x y : Gr) (a b : Option Addr) (n n2 c c2 : Nat) (w : World) (R1 : Rd w (.slice a n c) (ss x.1)) (R2 : Rd w (.slice b n2 c2) (ss y.1)) :
    Calls Try.prog 25 #[.agg #[.slice a n c, .string (ba x.2)], .agg #[.slice b n2 c2, .string (ba y.2)]] w (BoP (decide (x = y)) w) := by
  rw [gr_dec]
  have CALL := hid_of (fun (wz : World) (hz : Below w.heap.size w wz) => seqs_any x.1 y.1 a b n n2 c c2 wz (R1.at hz) (R2.at hz))
  obtain ⟨q, hq⟩ : ∃ q, q = decide (x.1 = y.1) := ⟨_, rfl⟩
  rw [← hq] at CALL ⊢
  clear hq R1 R2
  obtain ⟨bx, hx⟩ : ∃ bx, bx = ba x.2 := ⟨_, rfl⟩
  obtain ⟨bz, hy⟩ : ∃ bz, bz = ba y.2 := ⟨_, rfl⟩
  rw [← hx, ← hy]
  have HBB := hid_of (((Below.refl w.heap.size w).alloc (Nat.le_refl _) (.cells #[.slice a n c, .string bx] 47)).alloc (by simp) (.cells #[.slice b n2 c2, .string bz] 47))
  by_cases he : x.2 = y.2
  · have et := eq_t hx hy he
    rw [decide_eq_true he, Bool.true_and]
    clear hx hy he
    go_enter Try.func25, Try.ntmps25
    go_wp2_with (go_at_call 22; ((with_reducible refine (CALL.out _ HBB.out).mono ?_); (rintro e w2 ⟨rfl, h2⟩)); (have HX := hid_of h2); clear h2)
    go_ret
    exact ⟨rfl, HBB.out.trans (HX.out.mono (by simp; omega))⟩
  · have et := eq_f hx hy he
    rw [decide_eq_false he, Bool.false_and]
    clear hx hy he
    go_enter Try.func25, Try.ntmps25
    go_wp2
    go_ret
    exact ⟨rfl, HBB.out⟩

set_option maxRecDepth 100000 in
set_option maxHeartbeats 3200000 in
theorem eqfr_any (F : Nat) (eg : ∀ args w, (callFunc F args).run Try.prog w = .ok (.enter F args) w) (l m : List Gr) (ao bo : Option Addr) (n n2 cap cap2 : Nat) (w : World) (R1 : RuR w (.slice ao n cap) l) (R2 : RuR w (.slice bo n2 cap2) m)
    (hF : ∀ x ∈ l, ∀ (y : Gr) (a b : Option Addr) (k k2 c c2 : Nat) (w : World), Rd w (.slice a k c) (ss x.1) → Rd w (.slice b k2 c2) (ss y.1) → Calls Try.prog F #[.agg #[.slice a k c, .string (ba x.2)], .agg #[.slice b k2 c2, .string (ba y.2)]] w (BoP (decide (x = y)) w)) :
    Calls Try.prog 24 #[.slice ao n cap, .slice bo n2 cap2, .func (.func F) #[] #[]] w (BoP (decide (l = m)) w) := by
  obtain ⟨hn, hnc, hcap⟩ := R1.len
  obtain ⟨hn2, hnc2, hcap2⟩ := R2.len
  obtain ⟨r, hr⟩ : ∃ r, r = decide (l = m) := ⟨_, rfl⟩
  rw [← hr]
  have HR := hid_of hr
  have H1 := hid_of R1
  have H2 := hid_of R2
  have HF := hid_of hF
  clear hr R1 R2 hF
  by_cases hnn : n = n2
  case neg =>
    have RF : Hid (false = r) := hid_of (by rw [HR.out]; exact (decide_eq_false (fun h => hnn (by rw [hn, hn2, h]))).symm)
    have e1 : (n == n2) = false := beq_eq_false_iff_ne.2 hnn
    have e2 : ((n : Int) == (n2 : Int)) = false := beq_eq_false_iff_ne.2 (by omega)
    have e3 : ((n : Int) != (n2 : Int)) = true := bne_iff_ne.2 (by omega)
    clear hnn hn hn2
    go_enter Try.func24, Try.ntmps24
    go_wp2
    go_ret
    exact ⟨ret_b RF.out, Below.refl _ _⟩
  subst hnn
  have HN := hid_of hn
  have HN2 := hid_of hn2
  clear hn hn2
  go_enter Try.func24, Try.ntmps24
  go_wp2
  go_loopw [17] (fun iv wr => ∃ i : Nat, iv = .int .i64 i ∧ i ≤ n ∧ Hid (∀ j, j < i → l[j]? = m[j]?) ∧ Hid (Below w.heap.size w wr)) (fun iv _ => n - (intOf iv).toNat)
  case atStart => exact ⟨0, rfl, Nat.zero_le _, hid_of (fun j h => absurd h (Nat.not_lt_zero j)), hid_of (Below.refl _ _)⟩
  case round =>
    obtain ⟨i, rfl, hi, HM, hb⟩ := hrel
    by_cases hlt : i < n
    · have d1 : decide (i < n) = true := decide_eq_true hlt
      have hlt' : (i : Int) < (n : Int) := by omega
      have HLT := hid_of hlt
      have hl : i < l.length := by have := HN.out; omega
      have hm : i < m.length := by have := HN2.out; omega
      obtain ⟨g, o, aA, kA, dA, rfl, RA, hcA⟩ := H1.out.get (List.getElem?_eq_getElem hl)
      obtain ⟨c0, c1⟩ := hcA wr hb.out
      obtain ⟨g2, o2, aB, kB, dB, rfl, RB, hcB⟩ := H2.out.get (List.getElem?_eq_getElem hm)
      obtain ⟨b0, b1⟩ := hcB (wr.alloc (.cells #[.slice aA kA dA, .string (ba l[i].2)] 47)) (hb.out.alloc hb.out.size _)
      obtain ⟨bx, hx⟩ : ∃ bx, bx = ba l[i].2 := ⟨_, rfl⟩
      obtain ⟨bz, hy⟩ : ∃ bz, bz = ba m[i].2 := ⟨_, rfl⟩
      have HBB := hid_of ((hb.out.alloc (B := w.heap.size) hb.out.size (.cells #[.slice aA kA dA, .string (ba l[i].2)] 47)).alloc (by simp; exact Nat.le_succ_of_le hb.out.size) (.cells #[.slice aB kB dB, .string (ba m[i].2)] 47))
      have CALL := hid_of (HF.out l[i] (List.getElem_mem hl) m[i] aA aB kA kB dA dB _ (RA.at HBB.out) (RB.at HBB.out))
      rw [← hx] at CALL c1 b0 b1 HBB
      rw [← hy] at CALL b1 HBB
      clear hx hy hcA hcB RA RB
      obtain ⟨q, hq⟩ : ∃ q, q = decide (l[i] = m[i]) := ⟨_, rfl⟩
      rw [← hq] at CALL
      have HL := hid_of hl
      have HMM := hid_of hm
      cases q
      · have RF : Hid (false = r) := hid_of (by
          rw [HR.out]
          refine (decide_eq_false fun h => of_decide_eq_false hq.symm ?_).symm
          subst h; rfl)
        clear hlt hq hl hm
        go_wp2_with (go_at_fn F; go_loud (refine (CALL.out).mono ?_; rintro e w2 ⟨rfl, h2⟩; have HX := hid_of h2; clear h2))
        go_ret
        exact ⟨ret_b RF.out, HBB.out.trans (HX.out.mono (by have := hb.out.size; simp; omega))⟩
      · have HE : Hid (∀ j, j < i + 1 → l[j]? = m[j]?) := hid_of (fun j hj => by
          by_cases e : j = i
          · subst e; rw [List.getElem?_eq_getElem hl, List.getElem?_eq_getElem hm, of_decide_eq_true hq.symm]
          · exact HM.out j (by omega))
        clear hlt hq hl hm
        go_wp2_with (go_at_fn F; go_loud (refine (CALL.out).mono ?_; rintro e w2 ⟨rfl, h2⟩; have HX := hid_of h2; clear h2))
        go_roundw
        case rel => exact ⟨i + 1, by go_num, HLT.out, HE, hid_of (HBB.out.trans (HX.out.mono (by have := hb.out.size; simp; omega)))⟩
        case measure => have := HLT.out; simp [intOf]; omega
    · have d1 : decide (i < n) = false := decide_eq_false hlt
      have RT : Hid (true = r) := hid_of (by
        rw [HR.out]
        refine (decide_eq_true ?_).symm
        refine List.ext_getElem? fun j => ?_
        by_cases hj : j < n
        · exact HM.out j (by omega)
        · rw [List.getElem?_eq_none (by have := HN.out; omega), List.getElem?_eq_none (by have := HN2.out; omega)])
      go_wp2
      go_ret
      exact ⟨ret_b RT.out, hb.out⟩

set_option maxRecDepth 100000 in
set_option maxHeartbeats 3200000 in
theorem eqfl_any (F : Nat) (eg : ∀ args w, (callFunc F args).run Try.prog w = .ok (.enter F args) w) (l m : List Lat) (ao bo : Option Addr) (n n2 cap cap2 : Nat) (w : World) (R1 : LDs w (.slice ao n cap) l) (R2 : LDs w (.slice bo n2 cap2) m)
    (hF : ∀ x ∈ l, ∀ (y : Lat) (kA loA hiA : Int) (anA : Option Addr) (nnA cnA : Nat) (apA : Option Addr) (npA cpA : Nat) (arA : Option Addr) (nrA crA : Nat) (kB loB hiB : Int) (anB : Option Addr) (nnB cnB : Nat) (apB : Option Addr) (npB cpB : Nat) (arB : Option Addr) (nrB crB : Nat) (w : World), LO w kA loA hiA anA nnA cnA apA npA cpA arA nrA crA x → LO w kB loB hiB anB nnB cnB apB npB cpB arB nrB crB y → Calls Try.prog F #[.agg #[.int .i64 kA, .int .i64 loA, .int .i64 hiA, .slice anA nnA cnA, .slice apA npA cpA, .slice arA nrA crA], .agg #[.int .i64 kB, .int .i64 loB, .int .i64 hiB, .slice anB nnB cnB, .slice apB npB cpB, .slice arB nrB crB]] w (BoP (decide (x = y)) w)) :
    Calls Try.prog 23 #[.slice ao n cap, .slice bo n2 cap2, .func (.func F) #[] #[]] w (BoP (decide (l = m)) w) := by
  obtain ⟨hn, hnc, hcap⟩ := R1.len
  obtain ⟨hn2, hnc2, hcap2⟩ := R2.len
  obtain ⟨r, hr⟩ : ∃ r, r = decide (l = m) := ⟨_, rfl⟩
  rw [← hr]
  have HR := hid_of hr
  have H1 := hid_of R1
  have H2 := hid_of R2
  have HF := hid_of hF
  clear hr R1 R2 hF
  by_cases hnn : n = n2
  case neg =>
    have RF : Hid (false = r) := hid_of (by rw [HR.out]; exact (decide_eq_false (fun h => hnn (by rw [hn, hn2, h]))).symm)
    have e1 : (n == n2) = false := beq_eq_false_iff_ne.2 hnn
    have e2 : ((n : Int) == (n2 : Int)) = false := beq_eq_false_iff_ne.2 (by omega)
    have e3 : ((n : Int) != (n2 : Int)) = true := bne_iff_ne.2 (by omega)
    clear hnn hn hn2
    go_enter Try.func23, Try.ntmps23
    go_wp2
    go_ret
    exact ⟨ret_b RF.out, Below.refl _ _⟩
  subst hnn
  have HN := hid_of hn
  have HN2 := hid_of hn2
  clear hn hn2
  go_enter Try.func23, Try.ntmps23
  go_wp2
  go_loopw [17] (fun iv wr => ∃ i : Nat, iv = .int .i64 i ∧ i ≤ n ∧ Hid (∀ j, j < i → l[j]? = m[j]?) ∧ Hid (Below w.heap.size w wr)) (fun iv _ => n - (intOf iv).toNat)
  case atStart => exact ⟨0, rfl, Nat.zero_le _, hid_of (fun j h => absurd h (Nat.not_lt_zero j)), hid_of (Below.refl _ _)⟩
  case round =>
    obtain ⟨i, rfl, hi, HM, hb⟩ := hrel
    by_cases hlt : i < n
    · have d1 : decide (i < n) = true := decide_eq_true hlt
      have hlt' : (i : Int) < (n : Int) := by omega
      have HLT := hid_of hlt
      have hl : i < l.length := by have := HN.out; omega
      have hm : i < m.length := by have := HN2.out; omega
      obtain ⟨g, o, kA, loA, hiA, anA, nnA, cnA, apA, npA, cpA, arA, nrA, crA, rfl, LA, hcA⟩ := H1.out.get (List.getElem?_eq_getElem hl)
      obtain ⟨c0, c1, c2, c3, c4, c5⟩ := hcA wr hb.out
      obtain ⟨g2, o2, kB, loB, hiB, anB, nnB, cnB, apB, npB, cpB, arB, nrB, crB, rfl, LB, hcB⟩ := H2.out.get (List.getElem?_eq_getElem hm)
      obtain ⟨b0, b1, b2, b3, b4, b5⟩ := hcB (wr.alloc (.cells #[.int .i64 kA, .int .i64 loA, .int .i64 hiA, .slice anA nnA cnA, .slice apA npA cpA, .slice arA nrA crA] 26)) (hb.out.alloc hb.out.size _)
      have HBB := hid_of ((hb.out.alloc (B := w.heap.size) hb.out.size (.cells #[.int .i64 kA, .int .i64 loA, .int .i64 hiA, .slice anA nnA cnA, .slice apA npA cpA, .slice arA nrA crA] 26)).alloc (by simp; exact Nat.le_succ_of_le hb.out.size) (.cells #[.int .i64 kB, .int .i64 loB, .int .i64 hiB, .slice anB nnB cnB, .slice apB npB cpB, .slice arB nrB crB] 26))
      have CALL := hid_of (HF.out l[i] (List.getElem_mem hl) m[i] kA loA hiA anA nnA cnA apA npA cpA arA nrA crA kB loB hiB anB nnB cnB apB npB cpB arB nrB crB _ (LA.at HBB.out) (LB.at HBB.out))
      clear hcA hcB LA LB
      obtain ⟨q, hq⟩ : ∃ q, q = decide (l[i] = m[i]) := ⟨_, rfl⟩
      rw [← hq] at CALL
      have HL := hid_of hl
      have HMM := hid_of hm
      cases q
      · have RF : Hid (false = r) := hid_of (by
          rw [HR.out]
          refine (decide_eq_false fun h => of_decide_eq_false hq.symm ?_).symm
          subst h; rfl)
        clear hlt hq hl hm
        go_wp2_with (go_at_fn F; go_loud (refine (CALL.out).mono ?_; rintro e w2 ⟨rfl, h2⟩; have HX := hid_of h2; clear h2))
        go_ret
        exact ⟨ret_b RF.out, HBB.out.trans (HX.out.mono (by have := hb.out.size; simp; omega))⟩
      · have HE : Hid (∀ j, j < i + 1 → l[j]? = m[j]?) := hid_of (fun j hj => by
          by_cases e : j = i
          · subst e; rw [List.getElem?_eq_getElem hl, List.getElem?_eq_getElem hm, of_decide_eq_true hq.symm]
          · exact HM.out j (by omega))
        clear hlt hq hl hm
        go_wp2_with (go_at_fn F; go_loud (refine (CALL.out).mono ?_; rintro e w2 ⟨rfl, h2⟩; have HX := hid_of h2; clear h2))
        go_roundw
        case rel => exact ⟨i + 1, by go_num, HLT.out, HE, hid_of (HBB.out.trans (HX.out.mono (by have := hb.out.size; simp; omega)))⟩
        case measure => have := HLT.out; simp [intOf]; omega
    · have d1 : decide (i < n) = false := decide_eq_false hlt
      have RT : Hid (true = r) := hid_of (by
        rw [HR.out]
        refine (decide_eq_true ?_).symm
        refine List.ext_getElem? fun j => ?_
        by_cases hj : j < n
        · exact HM.out j (by omega)
        · rw [List.getElem?_eq_none (by have := HN.out; omega), List.getElem?_eq_none (by have := HN2.out; omega)])
      go_wp2
      go_ret
      exact ⟨ret_b RT.out, hb.out⟩

end Go.Proofs.Ytdmonbcinlmljaa

/- Equal of package lattice. Bounds on sizes alone. -/
namespace Go.Proofs.Ytdmonbcinlmljaa
open Go.RowKit

theorem lat_eq (k lo hi : Int) (ns : List Str) (ps : List Lat) (rs : List Gr) (u : Lat) : decide (Lat.mk k lo hi ns ps rs = u) = (decide (k = u.k) && decide (lo = u.lo) && decide (hi = u.hi) && decide (ns = u.ns) && decide (ps = u.ps) && decide (rs = u.rs)) := by
  obtain ⟨k2, lo2, hi2, ns2, ps2, rs2⟩ := u
  by_cases h : Lat.mk k lo hi ns ps rs = ⟨k2, lo2, hi2, ns2, ps2, rs2⟩
  · cases h
    simp [Lat.k, Lat.lo, Lat.hi, Lat.ns, Lat.ps, Lat.rs]
  · rw [decide_eq_false h, eq_comm, Bool.eq_false_iff]
    intro h2
    simp only [Bool.and_eq_true] at h2
    obtain ⟨⟨⟨⟨⟨a, b⟩, c⟩, d⟩, e⟩, f⟩ := h2
    have a : k = k2 := of_decide_eq_true a
    have b : lo = lo2 := of_decide_eq_true b
    have c : hi = hi2 := of_decide_eq_true c
    have d : ns = ns2 := of_decide_eq_true d
    have e : ps = ps2 := of_decide_eq_true e
    have f : rs = rs2 := of_decide_eq_true f
    exact h (by rw [a, b, c, d, e, f])
theorem blk_kept {W w' : World} {b : Nat} {cs : List Value} {E : TypeId} {m : Nat × Nat} (hb : W.heap[b]? = some (.cells cs.toArray E m)) (h : Below W.heap.size W w') {j : Nat} {u : Value} (hu : cs[j]? = some u) : w'.cell? ⟨b, j, none⟩ = some u := by
  have := World.news_of_block hb j u (by simpa using hu)
  rw [Addr.add_mid, Nat.zero_add] at this
  exact (h.cell (p := ⟨b, j, none⟩) (lt_of_block hb)).trans this
theorem two_new (w : World) (o o2 : Obj) : ((w.alloc o).alloc o2).heap[w.heap.size]? = some o ∧ ((w.alloc o).alloc o2).heap[w.heap.size + 1]? = some o2 := by
  refine ⟨((bel_alloc (w.alloc o) o2).block w.heap.size (by simp)).trans (heap_alloc_new w o), ?_⟩
  have := heap_alloc_new (w.alloc o) o2
  rw [show (w.alloc o).heap.size = w.heap.size + 1 by simp] at this
  exact this
set_option maxRecDepth 100000 in
set_option maxHeartbeats 3200000 in
theorem equal_any : ∀ (t u : Lat) (kA loA hiA : Int) (anA : Option Addr) (nnA cnA : Nat) (apA : Option Addr) (npA cpA : Nat) (arA : Option Addr) (nrA crA : Nat) (kB loB hiB : Int) (anB : Option Addr) (nnB cnB : Nat) (apB : Option Addr) (npB cpB : Nat) (arB : Option Addr) (nrB crB : Nat) (w : World), LO w kA loA hiA anA nnA cnA apA npA cpA arA nrA crA t → LO w kB loB hiB anB nnB cnB apB npB cpB arB nrB crB u → Calls Try.prog 8 #[.agg #[.int .i64 kA, .int .i64 loA, .int .i64 hiA, .slice anA nnA cnA, .slice apA npA cpA, .slice arA nrA crA], .agg #[.int .i64 kB, .int .i64 loB, .int .i64 hiB, .slice anB nnB cnB, .slice apB npB cpB, .slice arB nrB crB]] w (BoP (decide (t = u)) w) := by
  refine lat_ind ?_
  intro k' lo' hi' ns' ps' rs' ih u kA loA hiA anA nnA cnA apA npA cpA arA nrA crA kB loB hiB anB nnB cnB apB npB cpB arB nrB crB w H1 H2
  obtain rfl : kA = k' := H1.hk
  obtain rfl : loA = lo' := H1.hlo
  obtain rfl : hiA = hi' := H1.hhi
  rw [lat_eq, ← H2.hk, ← H2.hlo, ← H2.hhi]
  have CN := hid_of (fun (wz : World) (hz : Below w.heap.size w wz) => seqs_any ns' u.ns anA anB nnA nnB cnA cnB wz (H1.n.at hz) (H2.n.at hz))
  have CP := hid_of (fun (wz : World) (hz : Below w.heap.size w wz) => eqfl_any 8 (enters_of Try.func8 (by kernel_rfl) rfl) ps' u.ps apA apB npA npB cpA cpB wz (H1.p.at hz) (H2.p.at hz) ih)
  have CR := hid_of (fun (wz : World) (hz : Below w.heap.size w wz) => eqfr_any 25 (enters_of Try.func25 (by kernel_rfl) rfl) rs' u.rs arA arB nrA nrB crA crB wz (H1.r.at hz) (H2.r.at hz) (fun x _ y a b k k2 c c2 w h1 h2 => eqrule_any x y a b k k2 c c2 w h1 h2))
  obtain ⟨qn, hqn⟩ : ∃ q, q = decide (ns' = u.ns) := ⟨_, rfl⟩
  obtain ⟨qp, hqp⟩ : ∃ q, q = decide (ps' = u.ps) := ⟨_, rfl⟩
  obtain ⟨qr, hqr⟩ : ∃ q, q = decide (rs' = u.rs) := ⟨_, rfl⟩
  rw [← hqn] at CN ⊢
  rw [← hqp] at CP ⊢
  rw [← hqr] at CR ⊢
  clear hqn hqp hqr H1 H2 ih
  have HBB := hid_of (((Below.refl w.heap.size w).alloc (Nat.le_refl _) (.cells #[.int .i64 kA, .int .i64 loA, .int .i64 hiA, .slice anA nnA cnA, .slice apA npA cpA, .slice arA nrA crA] 26)).alloc (by simp) (.cells #[.int .i64 kB, .int .i64 loB, .int .i64 hiB, .slice anB nnB cnB, .slice apB npB cpB, .slice arB nrB crB] 26))
  have HC : Hid (∀ w', Below ((w.alloc (.cells #[.int .i64 kA, .int .i64 loA, .int .i64 hiA, .slice anA nnA cnA, .slice apA npA cpA, .slice arA nrA crA] 26)).alloc (.cells #[.int .i64 kB, .int .i64 loB, .int .i64 hiB, .slice anB nnB cnB, .slice apB npB cpB, .slice arB nrB crB] 26)).heap.size ((w.alloc (.cells #[.int .i64 kA, .int .i64 loA, .int .i64 hiA, .slice anA nnA cnA, .slice apA npA cpA, .slice arA nrA crA] 26)).alloc (.cells #[.int .i64 kB, .int .i64 loB, .int .i64 hiB, .slice anB nnB cnB, .slice apB npB cpB, .slice arB nrB crB] 26)) w' →
      w'.cell? ⟨w.heap.size, 4, none⟩ = some (.slice apA npA cpA) ∧ w'.cell? ⟨w.heap.size + 1, 4, none⟩ = some (.slice apB npB cpB) ∧ w'.cell? ⟨w.heap.size, 5, none⟩ = some (.slice arA nrA crA) ∧ w'.cell? ⟨w.heap.size + 1, 5, none⟩ = some (.slice arB nrB crB)) := hid_of (fun w' h => by
    obtain ⟨b1, b2⟩ := two_new w (.cells #[.int .i64 kA, .int .i64 loA, .int .i64 hiA, .slice anA nnA cnA, .slice apA npA cpA, .slice arA nrA crA] 26) (.cells #[.int .i64 kB, .int .i64 loB, .int .i64 hiB, .slice anB nnB cnB, .slice apB npB cpB, .slice arB nrB crB] 26)
    exact ⟨blk_kept (cs := [.int .i64 kA, .int .i64 loA, .int .i64 hiA, .slice anA nnA cnA, .slice apA npA cpA, .slice arA nrA crA]) b1 h rfl, blk_kept (cs := [.int .i64 kB, .int .i64 loB, .int .i64 hiB, .slice anB nnB cnB, .slice apB npB cpB, .slice arB nrB crB]) b2 h rfl, blk_kept (cs := [.int .i64 kA, .int .i64 loA, .int .i64 hiA, .slice anA nnA cnA, .slice apA npA cpA, .slice arA nrA crA]) b1 h rfl, blk_kept (cs := [.int .i64 kB, .int .i64 loB, .int .i64 hiB, .slice anB nnB cnB, .slice apB npB cpB, .slice arB nrB crB]) b2 h rfl⟩)
  by_cases hk : kA = kB
  case neg =>
    have e1 : (kA == kB) = false := beq_eq_false_iff_ne.2 hk
    rw [decide_eq_false hk]
    simp only [Bool.false_and]
    clear hk
    go_enter Try.func8, Try.ntmps8
    go_wp2
    go_ret
    exact ⟨rfl, HBB.out⟩
  by_cases hlo : loA = loB
  case neg =>
    have e1 : (kA == kB) = true := beq_iff_eq.2 hk
    have e2 : (loA == loB) = false := beq_eq_false_iff_ne.2 hlo
    rw [decide_eq_false hlo]
    simp only [Bool.false_and, Bool.and_false]
    clear hk hlo
    go_enter Try.func8, Try.ntmps8
    go_wp2
    go_ret
    exact ⟨rfl, HBB.out⟩
  by_cases hhi : hiA = hiB
  case neg =>
    have e1 : (kA == kB) = true := beq_iff_eq.2 hk
    have e2 : (loA == loB) = true := beq_iff_eq.2 hlo
    have e3 : (hiA == hiB) = false := beq_eq_false_iff_ne.2 hhi
    rw [decide_eq_false hhi]
    simp only [Bool.false_and, Bool.and_false]
    clear hk hlo hhi
    go_enter Try.func8, Try.ntmps8
    go_wp2
    go_ret
    exact ⟨rfl, HBB.out⟩
  have e1 : (kA == kB) = true := beq_iff_eq.2 hk
  have e2 : (loA == loB) = true := beq_iff_eq.2 hlo
  have e3 : (hiA == hiB) = true := beq_iff_eq.2 hhi
  rw [decide_eq_true hk, decide_eq_true hlo, decide_eq_true hhi]
  simp only [Bool.true_and]
  clear hk hlo hhi
  cases qn
  · simp only [Bool.false_and]
    go_enter Try.func8, Try.ntmps8
    go_wp2_with (first | (go_at_call 22; ((with_reducible refine (CN.out _ HBB.out).mono ?_); (rintro e w2 ⟨rfl, h2⟩)); (have H2 := hid_of (HBB.out.trans (h2.mono HBB.out.size))); (have K2 := hid_of h2); (obtain ⟨p4, q4, p5, q5⟩ := HC.out w2 h2); clear h2))
    go_ret
    exact ⟨rfl, H2.out⟩
  cases qp
  · simp only [Bool.true_and, Bool.false_and]
    go_enter Try.func8, Try.ntmps8
    go_wp2_with (first | (go_at_call 22; ((with_reducible refine (CN.out _ HBB.out).mono ?_); (rintro e w2 ⟨rfl, h2⟩)); (have H2 := hid_of (HBB.out.trans (h2.mono HBB.out.size))); (have K2 := hid_of h2); (obtain ⟨p4, q4, p5, q5⟩ := HC.out w2 h2); clear h2) | (go_at_call 23; go_loud ((with_reducible refine (CP.out _ H2.out).mono ?_); (rintro e w3 ⟨rfl, h2⟩)); (have H3 := hid_of (H2.out.trans (h2.mono H2.out.size))); (obtain ⟨s4, t4, s5, t5⟩ := HC.out w3 (K2.out.trans (h2.mono K2.out.size))); clear h2 p4 q4 p5 q5))
    go_ret
    exact ⟨rfl, H3.out⟩
  · simp only [Bool.true_and]
    go_enter Try.func8, Try.ntmps8
    go_wp2_with (first | (go_at_call 22; ((with_reducible refine (CN.out _ HBB.out).mono ?_); (rintro e w2 ⟨rfl, h2⟩)); (have H2 := hid_of (HBB.out.trans (h2.mono HBB.out.size))); (have K2 := hid_of h2); (obtain ⟨p4, q4, p5, q5⟩ := HC.out w2 h2); clear h2) | (go_at_call 23; go_loud ((with_reducible refine (CP.out _ H2.out).mono ?_); (rintro e w3 ⟨rfl, h2⟩)); (have H3 := hid_of (H2.out.trans (h2.mono H2.out.size))); (obtain ⟨s4, t4, s5, t5⟩ := HC.out w3 (K2.out.trans (h2.mono K2.out.size))); clear h2 p4 q4 p5 q5) | (go_at_call 24; ((with_reducible refine (CR.out _ H3.out).mono ?_); (rintro e w4 ⟨rfl, h2⟩)); (have H4 := hid_of (H3.out.trans (h2.mono H3.out.size))); clear h2))
    go_ret
    exact ⟨rfl, H4.out⟩

end Go.Proofs.Ytdmonbcinlmljaa

/- Chain of package lattice. Bounds on sizes alone. -/
namespace Go.Proofs.Ytdmonbcinlmljaa
open Go.RowKit Go.Maps

theorem r64_wf {n : Int} (h : R64 n) : (Lit.int .i64 n).wf = true := by
  show (decide (IntKind.i64.min ≤ n) && decide (n ≤ IntKind.i64.max)) = true
  have h1 : IntKind.i64.min = -9223372036854775808 := by rfl
  have h2 : IntKind.i64.max = 9223372036854775807 := by rfl
  rw [h1, h2, decide_eq_true h.1, decide_eq_true h.2]
  rfl
theorem keyedI : Keyed Try.prog 3 := int_keyed Try.underlying3
theorem zeroB (w : World) : (zeroValue 4).run Try.prog w = .ok (.bool false) w := by kernel_rfl

/-- Block b is a map in which the keys of a list are true, and no others. -/
def MapI (w : World) (b n : Nat) (keys : List Int) : Prop :=
  ∃ D : DataW Unit, w.ownsMap Try.prog 3 (plainElem Try.prog 4) b n D ∧ IsMap D ∧ ∀ x : Int, D.atKey (.int .i64 x) (.lit (.bool false)) = .lit (.bool (decide (x ∈ keys)))
theorem mapI_made (w : World) : MapI (w.alloc (.map #[] 0)) w.heap.size 0 [] :=
  ⟨.map [], World.ownsMap_made w _ _ _, isMap_empty, fun x => by simp [DataW.atKey]⟩
theorem MapI.same {w w' : World} {b n : Nat} {keys : List Int} (h : MapI w b n keys) (hb : w'.heap[b]? = w.heap[b]?) : MapI w' b n keys := by
  obtain ⟨D, ⟨es, clock, h1, h2, h3, h4⟩, h5, h6⟩ := h
  exact ⟨D, ⟨es, clock, hb.trans h1, h2, h3, h4⟩, h5, h6⟩
theorem MapI.lt {w : World} {b n : Nat} {keys : List Int} (h : MapI w b n keys) : b < w.heap.size := by
  obtain ⟨D, h1, _⟩ := h; exact h1.lt
theorem MapI.at {w w' : World} {b n : Nat} {keys : List Int} (h : MapI w b n keys) (hb : Below w.heap.size w w') : MapI w' b n keys := h.same (hb.block b h.lt)
set_option maxRecDepth 100000 in
theorem plainElem_bool_inv {v : Value} {q : Bool} {ps : List MemPlace} (h : plainElem (H := Unit) Try.prog 4 v = some (.lit (.bool q), ps)) : v = .bool q := by
  unfold plainElem at h
  rw [Try.underlying4] at h
  split at h
  · rename_i x _ ; simp only [Option.some.injEq, Prod.mk.injEq, DataW.lit.injEq, Lit.bool.injEq] at h; rw [h.1]
  · rename_i e; cases e
  · rename_i e; cases e
  · cases h
theorem MapI.look {w : World} {b n : Nat} {keys : List Int} (h : MapI w b n keys) (x : Int) (hx : R64 x) :
    (Instr.lookup 66 (.map (some b)) (.int .i64 x) false).run Try.prog w = .ok (.bool (decide (x ∈ keys))) w := by
  obtain ⟨D, h1, h2, h3⟩ := h
  have hk : keyOf Try.prog 3 (.int .i64 x) = some (.int .i64 x) := keyOf_int_mk Try.underlying3 (r64_wf hx)
  obtain ⟨v, ps, hrun, hv⟩ := h1.lookup keyedI Try.underlying66 (zeroB w) (plainElem_bool Try.underlying4 false) hk
  rw [h3 x] at hv
  rw [hrun, plainElem_bool_inv hv]
theorem mapI_put {w' : World} {b n : Nat} {keys : List Int} {x : Int} {D : DataW Unit} (h1 : w'.ownsMap Try.prog 3 (plainElem Try.prog 4) b (n + 1) (D.put (.int .i64 x) (.lit (.bool true))))
    (h2 : IsMap D) (h3 : ∀ x : Int, D.atKey (.int .i64 x) (.lit (.bool false)) = .lit (.bool (decide (x ∈ keys)))) : MapI w' b (n + 1) (keys ++ [x]) := by
  refine ⟨_, h1, h2.put _ _, fun y => ?_⟩
  by_cases e : y = x
  · subst e
    rw [atKey_put_same h2 (by trivial)]
    simp
  · rw [atKey_put_other (by intro e2; cases e2; exact e rfl), h3]
    congr 3
    rw [List.mem_append, List.mem_singleton]
    simp [e]
/-- The store of a literal's entry, at the operation. -/
theorem wpList_ins {ops : Array Oper} {rest : List Oper} {o : Oper} {a : Act} {w : World} {Q : Exit → Act → World → Prop} (hg : o.guard = none) (m x v : Operand)
    (hop : o.op = Op.insert 66 m x v) (b n : Nat) (keys : List Int) (y : Int) (hm : a.eval m = .map (some b)) (hx : a.eval x = .int .i64 y) (hv : a.eval v = .bool true) (h : MapI w b n keys) (hn : n ≤ 1000000) (hy : R64 y)
    (hK : ∀ w', MapI w' b (n + 1) (keys ++ [y]) → w.grownBy w' (some b) → wpList Try.prog ops Q rest (a.put o.dst undef) w') : wpList Try.prog ops Q (o :: rest) a w := by
  obtain ⟨D, h1, h2, h3⟩ := h
  refine wpList_plain hg fun K' hK' => ?_
  obtain ⟨w', hrun, r1, r2⟩ := h1.update keyedI Try.underlying66 (by unfold maxLen; omega) (keyOf_int_mk Try.underlying3 (r64_wf hy) : keyOf Try.prog 3 (.int .i64 y) = some (.int .i64 y)) (plainElem_bool Try.underlying4 true)
  unfold Oper.wp
  simp [execOp, hop, hm, hx, hv, hrun, Result.andThen]
  exact hK' _ _ (hK w' (mapI_put r1 h2 h3) r2)

set_option maxRecDepth 100000 in
set_option maxHeartbeats 3200000 in
theorem kinds_any (w : World) : Calls Try.prog 38 #[] w (fun e w' => ∃ b, e = .returned (.map (some b)) ∧ Below w.heap.size w w' ∧ MapI w' b 3 [1, 2, 3]) := by
  have hmm := @run_makeMap Try.prog
  have HM := hid_of (mapI_made w)
  have HB := hid_of (bel_alloc w (.map #[] 0))
  go_enter Try.func38, Try.ntmps38
  go_wp2_with (first
    | ((refine wpList_ins rfl _ _ _ rfl w.heap.size 0 [] 1 rfl rfl rfl HM.out (by omega) ⟨by omega, by omega⟩ ?_); intro w1 hm1 hg1; (have M1 := hid_of hm1); (have B1 := hid_of (HB.out.grown hg1 (by simp) (fun k hk => by cases hk; omega))); clear hm1 hg1)
    | ((refine wpList_ins rfl _ _ _ rfl w.heap.size 1 [1] 2 rfl rfl rfl M1.out (by omega) ⟨by omega, by omega⟩ ?_); intro w2 hm1 hg1; (have M2 := hid_of hm1); (have B2 := hid_of (B1.out.grown hg1 B1.out.size (fun k hk => by cases hk; omega))); clear hm1 hg1)
    | ((refine wpList_ins rfl _ _ _ rfl w.heap.size 2 [1, 2] 3 rfl rfl rfl M2.out (by omega) ⟨by omega, by omega⟩ ?_); intro w3 hm1 hg1; (have M3 := hid_of hm1); (have B3 := hid_of (B2.out.grown hg1 B2.out.size (fun k hk => by cases hk; omega))); clear hm1 hg1))
  go_ret
  exact ⟨_, rfl, B3.out, M3.out⟩
end Go.Proofs.Ytdmonbcinlmljaa

/- A map from strings to booleans that a call makes, as a set of keys. Bounds on sizes alone. -/
namespace Go.Proofs.Ytdmonbcinlmljaa
open Go.RowKit Go.Maps

theorem keyedS : Keyed Try.prog 9 := string_keyed Try.underlying9
/-- Block b is a map in which the keys of a list are true, and no others. -/
def MapS (w : World) (b n : Nat) (keys : List Str) : Prop :=
  ∃ D : DataW Unit, w.ownsMap Try.prog 9 (plainElem Try.prog 4) b n D ∧ IsMap D ∧ ∀ x : Str, D.atKey (.string x) (.lit (.bool false)) = .lit (.bool (decide (x ∈ keys)))
theorem mapS_made (w : World) : MapS (w.alloc (.map #[] 0)) w.heap.size 0 [] :=
  ⟨.map [], World.ownsMap_made w _ _ _, isMap_empty, fun x => by simp [DataW.atKey]⟩
theorem MapS.same {w w' : World} {b n : Nat} {keys : List Str} (h : MapS w b n keys) (hb : w'.heap[b]? = w.heap[b]?) : MapS w' b n keys := by
  obtain ⟨D, ⟨es, clock, h1, h2, h3, h4⟩, h5, h6⟩ := h
  exact ⟨D, ⟨es, clock, hb.trans h1, h2, h3, h4⟩, h5, h6⟩
theorem MapS.lt {w : World} {b n : Nat} {keys : List Str} (h : MapS w b n keys) : b < w.heap.size := by
  obtain ⟨D, h1, _⟩ := h; exact h1.lt
theorem MapS.look {w : World} {b n : Nat} {keys : List Str} (h : MapS w b n keys) (x : Str) (hx : x.length ≤ 9223372036854775807) :
    (Instr.lookup 89 (.map (some b)) (.string (ba x)) false).run Try.prog w = .ok (.bool (decide (x ∈ keys))) w := by
  obtain ⟨D, h1, h2, h3⟩ := h
  have hk : keyOf Try.prog 9 (.string (ba x)) = some (.string x) := Go.WideMaps.keyOf_string_mk Try.underlying9 (by show x.toArray.size ≤ maxLen; unfold maxLen; simp; omega)
  obtain ⟨v, ps, hrun, hv⟩ := h1.lookup keyedS Try.underlying89 (zeroB w) (plainElem_bool Try.underlying4 false) hk
  rw [h3 x] at hv
  rw [hrun, plainElem_bool_inv hv]
theorem mapS_put {w' : World} {b n : Nat} {keys : List Str} {x : Str} {D : DataW Unit} (h1 : w'.ownsMap Try.prog 9 (plainElem Try.prog 4) b (n + 1) (D.put (.string x) (.lit (.bool true))))
    (h2 : IsMap D) (h3 : ∀ x : Str, D.atKey (.string x) (.lit (.bool false)) = .lit (.bool (decide (x ∈ keys)))) : MapS w' b (n + 1) (keys ++ [x]) := by
  refine ⟨_, h1, h2.put _ _, fun y => ?_⟩
  by_cases e : y = x
  · subst e
    rw [atKey_put_same h2 (by trivial)]
    simp
  · rw [atKey_put_other (by intro e2; cases e2; exact e rfl), h3]
    congr 3
    rw [List.mem_append, List.mem_singleton]
    simp [e]
/-- The store at the operation. -/
theorem wpList_put {ops : Array Oper} {rest : List Oper} {o : Oper} {a : Act} {w : World} {Q : Exit → Act → World → Prop} (hg : o.guard = none) (m x v : Operand)
    (hop : o.op = Op.mapUpdate 89 m x v) (b n : Nat) (keys : List Str) (y : Str) (hm : a.eval m = .map (some b)) (hx : a.eval x = .string (ba y)) (hv : a.eval v = .bool true) (h : MapS w b n keys) (hn : n < 9223372036854775807) (hy : y.length ≤ 9223372036854775807)
    (hK : ∀ w', MapS w' b (n + 1) (keys ++ [y]) → w.grownBy w' (some b) → wpList Try.prog ops Q rest (a.put o.dst undef) w') : wpList Try.prog ops Q (o :: rest) a w := by
  obtain ⟨D, h1, h2, h3⟩ := h
  refine wpList_mapUpdate_own w hg m x v 89 hop 9 4 keyedS Try.underlying89 _ b n D hm h1 (by unfold maxLen; omega) (.string (ba y)) (.bool true) (.string y) hx hv
    (Go.WideMaps.keyOf_string_mk Try.underlying9 (by show y.toArray.size ≤ maxLen; unfold maxLen; simp; omega)) (.lit (.bool true)) [] (plainElem_bool Try.underlying4 true) (fun w' hown hgrow => hK w' (mapS_put hown h2 h3) hgrow)
end Go.Proofs.Ytdmonbcinlmljaa
