/- Encodings of descriptions, and that none begins another. Plain mathematics. -/
import Derived.Test.YtoogcafceghdjaaLatPrm
import Derived.Test.YtoogcafceghdjaaWireDec
namespace Go.Proofs.Ytoogcafceghdjaa
open Go.RowKit

def txE (x : Str) : List Int := Wr.enc x.length ++ Wr.strBytes (ba x)
def nsE (ns : List Str) : List Int := Wr.enc ns.length ++ ns.flatMap txE
def ruE1 (r : Gr) : List Int := nsE r.1 ++ txE r.2
def rsE (rs : List Gr) : List Int := Wr.enc rs.length ++ rs.flatMap ruE1
mutual
/-- The encoding of a description. -/
def encL : Lat → List Int
  | ⟨k, lo, hi, ns, ps, rs⟩ => Wr.enc k.toNat ++ (if k = 2 ∨ k = 3 then Wr.enc (Wr.zig lo) ++ Wr.enc (Wr.zig hi) else if k = 4 ∨ k = 8 then nsE ns else if k = 5 then nsE ns ++ encLs ps else if k = 6 then Wr.enc ns.length ++ encPs ns ps else if k = 7 then encLs ps else if k = 10 then nsE ns ++ rsE rs else [])
def encLs : List Lat → List Int
  | [] => []
  | p :: ps => encL p ++ encLs ps
def encPs : List Str → List Lat → List Int
  | n :: ns, p :: ps => txE n ++ encL p ++ encPs ns ps
  | [], _ => []
  | _ :: _, [] => []
end
theorem encPs_cons (n : Str) (ns : List Str) (p : Lat) (ps : List Lat) : encPs (n :: ns) (p :: ps) = txE n ++ encL p ++ encPs ns ps := by rw [encPs]
theorem encLs_cons (p : Lat) (ps : List Lat) : encLs (p :: ps) = encL p ++ encLs ps := by rw [encLs]
theorem encLs_nil : encLs [] = [] := by rw [encLs]
theorem encPs_nil (ps : List Lat) : encPs [] ps = [] := by cases ps <;> rw [encPs]
theorem encLs_map : ∀ ps : List Lat, encLs ps = ps.flatMap encL
  | [] => by rw [encLs]; rfl
  | p :: ps => by rw [encLs, encLs_map ps]; rfl

theorem strB_length (x : Str) : (Wr.strBytes (ba x)).length = x.length := by simp [Wr.strBytes, ba]
theorem strB_inj {x y : Str} (h : Wr.strBytes (ba x) = Wr.strBytes (ba y)) : x = y := by
  have hx : ∀ z : Str, (Wr.strBytes (ba z)).map (fun i : Int => UInt8.ofNat i.toNat) = z := fun z => by
    simp only [Wr.strBytes, ba, List.map_map]
    exact (List.map_congr_left (fun a _ => by simp)).trans (List.map_id z)
  rw [← hx x, ← hx y, h]
theorem enc_cut {n m : Nat} {s t : List Int} (hn : n < 18446744073709551616) (hm : m < 18446744073709551616) (h : Wr.enc n ++ s = Wr.enc m ++ t) : n = m ∧ s = t := by
  have h1 := Wr.dec_enc n s hn
  rw [h, Wr.dec_enc m t hm] at h1
  have e : n = m := by simp at h1; exact h1.1.symm
  subst e
  exact ⟨rfl, List.append_cancel_left h⟩
theorem tx_cut {x y : Str} {s t : List Int} (hx : x.length < 18446744073709551616) (hy : y.length < 18446744073709551616) (h : txE x ++ s = txE y ++ t) : x = y ∧ s = t := by
  unfold txE at h
  rw [List.append_assoc, List.append_assoc] at h
  obtain ⟨h1, h2⟩ := enc_cut hx hy h
  obtain ⟨h3, h4⟩ := List.append_inj h2 (by rw [strB_length, strB_length, h1])
  exact ⟨strB_inj h3, h4⟩
/-- Lists of the same length, part by part. -/
theorem flat_cut {α : Type} {f : α → List Int} {ok : α → Prop} (hc : ∀ x y s t, ok x → ok y → f x ++ s = f y ++ t → x = y ∧ s = t) : ∀ (a b : List α) (s t : List Int), a.length = b.length → (∀ x ∈ a, ok x) → (∀ x ∈ b, ok x) → a.flatMap f ++ s = b.flatMap f ++ t → a = b ∧ s = t
  | [], [], s, t, _, _, _, h => ⟨rfl, by simpa using h⟩
  | [], _ :: _, _, _, hl, _, _, _ => by simp at hl
  | _ :: _, [], _, _, hl, _, _, _ => by simp at hl
  | x :: a, y :: b, s, t, hl, ha, hb, h => by
    rw [List.flatMap_cons, List.flatMap_cons, List.append_assoc, List.append_assoc] at h
    obtain ⟨h1, h2⟩ := hc x y _ _ (ha x (by simp)) (hb y (by simp)) h
    obtain ⟨h3, h4⟩ := flat_cut hc a b s t (by simpa using hl) (fun z hz => ha z (by simp [hz])) (fun z hz => hb z (by simp [hz])) h2
    exact ⟨by rw [h1, h3], h4⟩
abbrev Sm (l : List Str) : Prop := l.length ≤ 32 ∧ ∀ x ∈ l, x.length ≤ 16
theorem ns_cut {a b : List Str} {s t : List Int} (ha : Sm a) (hb : Sm b) (h : nsE a ++ s = nsE b ++ t) : a = b ∧ s = t := by
  unfold nsE at h
  rw [List.append_assoc, List.append_assoc] at h
  obtain ⟨h1, h2⟩ := enc_cut (by have := ha.1; omega) (by have := hb.1; omega) h
  exact flat_cut (ok := fun x => x.length ≤ 16) (fun x y s t hx hy => tx_cut (by omega) (by omega)) a b s t h1 ha.2 hb.2 h2
abbrev SmR (r : Gr) : Prop := Sm r.1 ∧ r.2.length ≤ 16
theorem ru_cut {a b : Gr} {s t : List Int} (ha : SmR a) (hb : SmR b) (h : ruE1 a ++ s = ruE1 b ++ t) : a = b ∧ s = t := by
  unfold ruE1 at h
  rw [List.append_assoc, List.append_assoc] at h
  obtain ⟨h1, h2⟩ := ns_cut ha.1 hb.1 h
  obtain ⟨h3, h4⟩ := tx_cut (by have := ha.2; omega) (by have := hb.2; omega) h2
  exact ⟨Prod.ext h1 h3, h4⟩
theorem rs_cut {a b : List Gr} {s t : List Int} (la : a.length ≤ 32) (lb : b.length ≤ 32) (ha : ∀ r ∈ a, SmR r) (hb : ∀ r ∈ b, SmR r) (h : rsE a ++ s = rsE b ++ t) : a = b ∧ s = t := by
  unfold rsE at h
  rw [List.append_assoc, List.append_assoc] at h
  obtain ⟨h1, h2⟩ := enc_cut (by omega) (by omega) h
  exact flat_cut (ok := SmR) (fun x y s t hx hy => ru_cut hx hy) a b s t h1 ha hb h2
theorem zig_inj {a b : Int} (h : Wr.zig a = Wr.zig b) : a = b := by unfold Wr.zig at h; split at h <;> split at h <;> omega

/-- What a node without an error is. -/
structure NodeF (t : Lat) : Prop where
  shape : shapeB t = true
  nl : t.ns.length ≤ 32
  pl : t.k = 6 → t.ns.length ≤ 8
  rl : t.rs.length ≤ 32
  nm : ∀ x ∈ t.ns, x.length ≤ 16
  ru : ∀ r ∈ t.rs, SmR r
  lo : -1000000000 ≤ t.lo ∧ t.lo ≤ 1000000000
  hi : -1000000000 ≤ t.hi ∧ t.hi ≤ 1000000000
theorem sub_lenS : ∀ (A B : List Str), A.Nodup → (∀ x ∈ A, x ∈ B) → A.length ≤ B.length := by
  intro A
  induction A with
  | nil => intro B _ _; simp
  | cons a A ih =>
    intro B hA hB
    have ⟨h1, h2⟩ := List.nodup_cons.1 hA
    have h3 := ih (B.erase a) h2 (fun x hx => (List.mem_erase_of_ne (by rintro rfl; exact h1 hx)).2 (hB x (List.mem_cons_of_mem _ hx)))
    have h4 := List.length_erase_of_mem (hB a List.mem_cons_self)
    have h5 : 0 < B.length := List.length_pos_of_mem (hB a List.mem_cons_self)
    simp only [List.length_cons]
    omega
theorem name_16 {x : Str} (h : nameB x = true) : x.length ≤ 16 := by
  have := ((isName_iff _).1 h).2.1
  rw [strBytes_length] at this
  simpa [ba, ByteArray.size] using this
theorem node_f {t : Lat} (h : nodeE t = 0) : NodeF t := by
  have hs := node_shape h
  unfold nodeE at h
  rw [if_neg (by rw [hs]; simp)] at h
  split at h
  · omega
  · rename_i h1
    split at h
    · omega
    · rename_i h2
      split at h
      · omega
      · rename_i h3
        have h2' : (namesB t && rulesB t.ns t.rs) = true := by simpa using h2
        rw [Bool.and_eq_true] at h2'
        obtain ⟨hn, hr⟩ := h2'
        have hnl : t.ns.length ≤ limL t.k ∧ t.rs.length ≤ 32 := by omega
        have hlim : limL t.k ≤ 32 ∧ (t.k = 6 → limL t.k = 8) := by unfold limL; split; exact ⟨by omega, fun _ => rfl⟩; split <;> exact ⟨by omega, fun e => by omega⟩
        have hnm : ∀ x ∈ t.ns, x.length ≤ 16 := fun x hx => by
          unfold namesB at hn
          rw [Bool.and_eq_true, Bool.and_eq_true] at hn
          exact name_16 (List.all_eq_true.1 hn.1.1 x hx)
        refine ⟨hs, by omega, fun e => by have := hlim.2 e; omega, hnl.2, hnm, fun r hr2 => ?_, by omega, by omega⟩
        have h4 := List.all_eq_true.1 hr r hr2
        unfold ruleB at h4
        rw [Bool.and_eq_true, Bool.and_eq_true] at h4
        have hm : ∀ x ∈ r.1 ++ [r.2], x ∈ t.ns := fun x hx => of_decide_eq_true (List.all_eq_true.1 h4.2 x hx)
        have hss : SS r.1 := of_decide_eq_true h4.1.2
        have hle := sub_lenS r.1 t.ns (ss_nodup hss) (fun x hx => hm x (List.mem_append_left _ hx))
        exact ⟨⟨by omega, fun x hx => hnm x (hm x (List.mem_append_left _ hx))⟩, hnm r.2 (hm r.2 (by simp))⟩
theorem NodeF.kk {t : Lat} (h : NodeF t) : 1 ≤ t.k ∧ t.k ≤ 10 := shape_k h.shape
theorem Okay.node {t : Lat} (h : Okay t) : NodeF t := by cases h with | mk h0 _ => exact node_f h0
theorem Okay.part {t : Lat} (h : Okay t) : ∀ p ∈ t.ps, Okay p := by cases h with | mk _ h1 => exact h1

theorem encLs_cut : ∀ (ps qs : List Lat) (s t : List Int), ps.length = qs.length → (∀ p ∈ ps, ∀ b, Okay b → ∀ s t, encL p ++ s = encL b ++ t → p = b ∧ s = t) → (∀ q ∈ qs, Okay q) → encLs ps ++ s = encLs qs ++ t → ps = qs ∧ s = t
  | [], [], s, t, _, _, _, h => ⟨rfl, by rw [encLs_nil] at h; simpa using h⟩
  | [], _ :: _, _, _, hl, _, _, _ => by simp at hl
  | _ :: _, [], _, _, hl, _, _, _ => by simp at hl
  | p :: ps, q :: qs, s, t, hl, ha, hb, h => by
    rw [encLs_cons, encLs_cons, List.append_assoc, List.append_assoc] at h
    obtain ⟨h1, h2⟩ := ha p (by simp) q (hb q (by simp)) _ _ h
    obtain ⟨h3, h4⟩ := encLs_cut ps qs s t (by simpa using hl) (fun z hz => ha z (by simp [hz])) (fun z hz => hb z (by simp [hz])) h2
    exact ⟨by rw [h1, h3], h4⟩
theorem encPs_cut : ∀ (ns ms : List Str) (ps qs : List Lat) (s t : List Int), ns.length = ms.length → ps.length = ns.length → qs.length = ms.length → (∀ x ∈ ns, x.length ≤ 16) → (∀ x ∈ ms, x.length ≤ 16) → (∀ p ∈ ps, ∀ b, Okay b → ∀ s t, encL p ++ s = encL b ++ t → p = b ∧ s = t) → (∀ q ∈ qs, Okay q) → encPs ns ps ++ s = encPs ms qs ++ t → (ns = ms ∧ ps = qs) ∧ s = t
  | [], [], [], [], s, t, _, _, _, _, _, _, _, h => ⟨⟨rfl, rfl⟩, by rw [encPs_nil] at h; simpa using h⟩
  | [], _ :: _, _, _, _, _, hl, _, _, _, _, _, _, _ => by simp at hl
  | _ :: _, [], _, _, _, _, hl, _, _, _, _, _, _, _ => by simp at hl
  | [], [], _ :: _, _, _, _, _, hl, _, _, _, _, _, _ => by simp at hl
  | [], [], [], _ :: _, _, _, _, _, hl, _, _, _, _, _ => by simp at hl
  | _ :: _, _ :: _, [], _, _, _, _, hl, _, _, _, _, _, _ => by simp at hl
  | _ :: _, _ :: _, _ :: _, [], _, _, _, _, hl, _, _, _, _, _ => by simp at hl
  | n :: ns, m :: ms, p :: ps, q :: qs, s, t, h0, h1, h2, hn, hm, ha, hb, h => by
    rw [encPs_cons, encPs_cons, List.append_assoc, List.append_assoc, List.append_assoc, List.append_assoc] at h
    obtain ⟨e1, h3⟩ := tx_cut (by have := hn n (by simp); omega) (by have := hm m (by simp); omega) h
    obtain ⟨e2, h4⟩ := ha p (by simp) q (hb q (by simp)) _ _ h3
    obtain ⟨⟨e3, e4⟩, e5⟩ := encPs_cut ns ms ps qs s t (by simpa using h0) (by simpa using h1) (by simpa using h2) (fun z hz => hn z (by simp [hz])) (fun z hz => hm z (by simp [hz])) (fun z hz => ha z (by simp [hz])) (fun z hz => hb z (by simp [hz])) h4
    exact ⟨⟨by rw [e1, e3], by rw [e2, e4]⟩, e5⟩
/-- No encoding of a description without an error begins another one's. -/
theorem encL_cut : ∀ a, Okay a → ∀ b, Okay b → ∀ s t, encL a ++ s = encL b ++ t → a = b ∧ s = t := by
  refine lat_ind ?_
  rintro k lo hi ns ps rs ih ha ⟨k2, lo2, hi2, ns2, ps2, rs2⟩ hb s t h
  have fa := ha.node
  have fb := hb.node
  have pa := ha.part
  have pb := hb.part
  have ka := fa.kk
  have kb := fb.kk
  have sa := fa.shape
  have sb := fb.shape
  have loa := fa.lo
  have lob := fb.lo
  have hia := fa.hi
  have hib := fb.hi
  have nla := fa.nl
  have nlb := fb.nl
  have nma := fa.nm
  have nmb := fb.nm
  have rla := fa.rl
  have rlb := fb.rl
  have rua := fa.ru
  have rub := fb.ru
  simp only [Lat.k, Lat.lo, Lat.hi, Lat.ns, Lat.ps, Lat.rs] at ka kb loa lob hia hib nla nlb nma nmb rla rlb rua rub pa pb
  rw [encL, encL, List.append_assoc, List.append_assoc] at h
  obtain ⟨h1, h2⟩ := enc_cut (by omega) (by omega) h
  have e : k2 = k := by omega
  subst e
  unfold shapeB at sa sb
  simp only [Lat.k, Lat.lo, Lat.hi, Lat.ns, Lat.ps, Lat.rs] at sa sb
  have IH : ∀ p ∈ ps, ∀ b, Okay b → ∀ s t, encL p ++ s = encL b ++ t → p = b ∧ s = t := fun p hp => ih p hp (pa p hp)
  have z64 : ∀ n : Int, -1000000000 ≤ n ∧ n ≤ 1000000000 → Wr.zig n < 18446744073709551616 := fun n hn => Wr.zig_lt n (by omega) (by omega)
  rcases kinds k2 with rfl | rfl | rfl | rfl | rfl | rfl | rfl | rfl | rfl | rfl | hx
  case inr.inr.inr.inr.inr.inr.inr.inr.inr.inr => omega
  case inl =>
    simp at sa sb h2
    have sa := of_decide_eq_true sa
    have sb := of_decide_eq_true sb
    obtain ⟨a1, a2, a3, a4, a5⟩ := sa
    obtain ⟨b1, b2, b3, b4, b5⟩ := sb
    exact ⟨by rw [a1, a2, a3, a4, a5, b1, b2, b3, b4, b5], h2⟩
  case inr.inl =>
    simp at sa sb h2
    have sa := of_decide_eq_true sa
    have sb := of_decide_eq_true sb
    obtain ⟨a1, a2, a3⟩ := sa
    obtain ⟨b1, b2, b3⟩ := sb
    obtain ⟨e1, h3⟩ := enc_cut (z64 _ loa) (z64 _ lob) h2
    obtain ⟨e2, h4⟩ := enc_cut (z64 _ hia) (z64 _ hib) h3
    exact ⟨by rw [zig_inj e1, zig_inj e2, a1, a2, a3, b1, b2, b3], h4⟩
  case inr.inr.inl =>
    simp at sa sb h2
    have sa := of_decide_eq_true sa
    have sb := of_decide_eq_true sb
    obtain ⟨a1, a2, a3⟩ := sa
    obtain ⟨b1, b2, b3⟩ := sb
    obtain ⟨e1, h3⟩ := enc_cut (z64 _ loa) (z64 _ lob) h2
    obtain ⟨e2, h4⟩ := enc_cut (z64 _ hia) (z64 _ hib) h3
    exact ⟨by rw [zig_inj e1, zig_inj e2, a1, a2, a3, b1, b2, b3], h4⟩
  case inr.inr.inr.inl =>
    simp at sa sb h2
    have sa := of_decide_eq_true sa
    have sb := of_decide_eq_true sb
    obtain ⟨a1, a2, a3, a4⟩ := sa
    obtain ⟨b1, b2, b3, b4⟩ := sb
    obtain ⟨e1, h3⟩ := ns_cut ⟨nla, nma⟩ ⟨nlb, nmb⟩ h2
    exact ⟨by rw [e1, a1, a2, a3, a4, b1, b2, b3, b4], h3⟩
  case inr.inr.inr.inr.inl =>
    simp at sa sb h2
    have sa := of_decide_eq_true sa
    have sb := of_decide_eq_true sb
    obtain ⟨a1, a2, a3, a4⟩ := sa
    obtain ⟨b1, b2, b3, b4⟩ := sb
    obtain ⟨e1, h3⟩ := ns_cut ⟨nla, nma⟩ ⟨nlb, nmb⟩ h2
    obtain ⟨e2, h4⟩ := encLs_cut _ _ _ _ (by omega) IH pb h3
    exact ⟨by rw [e1, e2, a1, a2, a3, b1, b2, b3], h4⟩
  case inr.inr.inr.inr.inr.inl =>
    simp at sa sb h2
    have sa := of_decide_eq_true sa
    have sb := of_decide_eq_true sb
    obtain ⟨a1, a2, a3, a4, a5⟩ := sa
    obtain ⟨b1, b2, b3, b4, b5⟩ := sb
    obtain ⟨e0, h3⟩ := enc_cut (by omega) (by omega) h2
    obtain ⟨⟨e1, e2⟩, h4⟩ := encPs_cut ns ns2 ps ps2 _ _ e0 a4 b4 nma nmb IH pb h3
    exact ⟨by rw [e1, e2, a1, a2, a3, b1, b2, b3], h4⟩
  case inr.inr.inr.inr.inr.inr.inl =>
    simp at sa sb h2
    have sa := of_decide_eq_true sa
    have sb := of_decide_eq_true sb
    obtain ⟨a1, a2, a3, a4, a5⟩ := sa
    obtain ⟨b1, b2, b3, b4, b5⟩ := sb
    obtain ⟨e2, h4⟩ := encLs_cut _ _ _ _ (by omega) IH pb h2
    exact ⟨by rw [e2, a1, a2, a3, a5, b1, b2, b3, b5], h4⟩
  case inr.inr.inr.inr.inr.inr.inr.inl =>
    simp at sa sb h2
    have sa := of_decide_eq_true sa
    have sb := of_decide_eq_true sb
    obtain ⟨a1, a2, a3, a4⟩ := sa
    obtain ⟨b1, b2, b3, b4⟩ := sb
    obtain ⟨e1, h3⟩ := ns_cut ⟨nla, nma⟩ ⟨nlb, nmb⟩ h2
    exact ⟨by rw [e1, a1, a2, a3, a4, b1, b2, b3, b4], h3⟩
  case inr.inr.inr.inr.inr.inr.inr.inr.inl =>
    simp at sa sb h2
    have sa := of_decide_eq_true sa
    have sb := of_decide_eq_true sb
    obtain ⟨a1, a2, a3, a4, a5⟩ := sa
    obtain ⟨b1, b2, b3, b4, b5⟩ := sb
    exact ⟨by rw [a1, a2, a3, a4, a5, b1, b2, b3, b4, b5], h2⟩
  case inr.inr.inr.inr.inr.inr.inr.inr.inr.inl =>
    simp at sa sb h2
    have sa := of_decide_eq_true sa
    have sb := of_decide_eq_true sb
    obtain ⟨a1, a2, a3, a4⟩ := sa
    obtain ⟨b1, b2, b3, b4⟩ := sb
    obtain ⟨e1, h3⟩ := ns_cut ⟨nla, nma⟩ ⟨nlb, nmb⟩ h2
    obtain ⟨e2, h4⟩ := rs_cut rla rlb rua rub h3
    exact ⟨by rw [e1, e2, a1, a2, a3, b1, b2, b3], h4⟩

/-- How long an encoding is. -/
theorem txE_len {x : Str} (h : x.length ≤ 16) : (txE x).length ≤ 26 := by
  unfold txE
  have := Wr.enc_length_10 x.length (by omega)
  rw [List.length_append, strB_length]; omega
theorem flat_len {α : Type} {f : α → List Int} {m : Nat} : ∀ l : List α, (∀ x ∈ l, (f x).length ≤ m) → (l.flatMap f).length ≤ l.length * m
  | [], _ => by simp
  | x :: l, h => by
    rw [List.flatMap_cons, List.length_append, List.length_cons, Nat.add_mul]
    have h1 := h x (by simp)
    have h2 := flat_len l fun y hy => h y (by simp [hy])
    omega
theorem nsE_len {l : List Str} (h : Sm l) : (nsE l).length ≤ 842 := by
  unfold nsE
  have h1 := Wr.enc_length_10 l.length (by have := h.1; omega)
  have h2 := flat_len (f := txE) (m := 26) l fun x hx => txE_len (h.2 x hx)
  have h3 : l.length * 26 ≤ 32 * 26 := Nat.mul_le_mul_right _ h.1
  rw [List.length_append]; omega
theorem rsE_len {l : List Gr} (hl : l.length ≤ 32) (h : ∀ r ∈ l, SmR r) : (rsE l).length ≤ 27800 := by
  unfold rsE
  have h1 := Wr.enc_length_10 l.length (by omega)
  have h2 := flat_len (f := ruE1) (m := 868) l fun r hr => by
    unfold ruE1
    have a := nsE_len (h r hr).1
    have b := txE_len (h r hr).2
    rw [List.length_append]; omega
  have h3 : l.length * 868 ≤ 32 * 868 := Nat.mul_le_mul_right _ hl
  rw [List.length_append]; omega
theorem depth_mem : ∀ (ps : List Lat) (p : Lat), p ∈ ps → depthL p ≤ depthsL ps
  | q :: ps, p, h => by
    rw [depthsL]
    rcases List.mem_cons.1 h with rfl | h
    · omega
    · have := depth_mem ps p h; omega
theorem encPs_len {m : Nat} : ∀ (ns : List Str) (ps : List Lat), (∀ x ∈ ns, x.length ≤ 16) → (∀ p ∈ ps, (encL p).length ≤ m) → (encPs ns ps).length ≤ ns.length * (26 + m)
  | [], ps, _, _ => by rw [encPs_nil]; simp
  | _ :: _, [], _, _ => by rw [encPs]; simp
  | n :: ns, p :: ps, hn, hp => by
    rw [encPs_cons, List.length_append, List.length_append, List.length_cons, Nat.add_mul]
    have h1 := txE_len (hn n (by simp))
    have h2 := hp p (by simp)
    have h3 := encPs_len ns ps (fun x hx => hn x (by simp [hx])) (fun x hx => hp x (by simp [hx]))
    omega
theorem encL_len : ∀ t, Okay t → (encL t).length ≤ 30000 * 10 ^ depthL t := by
  refine lat_ind ?_
  intro k lo hi ns ps rs ih ha
  have fa := ha.node
  have pa := ha.part
  have ka := fa.kk
  have sa := fa.shape
  have loa := fa.lo
  have hia := fa.hi
  have nla := fa.nl
  have pla := fa.pl
  have nma := fa.nm
  have rla := fa.rl
  have rua := fa.ru
  simp only [Lat.k, Lat.lo, Lat.hi, Lat.ns, Lat.ps, Lat.rs] at ka loa hia nla nma rla rua pa pla
  unfold shapeB at sa
  simp only [Lat.k, Lat.lo, Lat.hi, Lat.ns, Lat.ps, Lat.rs] at sa
  rw [encL, depthL, Nat.pow_succ]
  obtain ⟨D, hD⟩ : ∃ D, D = 10 ^ depthsL ps := ⟨_, rfl⟩
  have hD1 : 1 ≤ D := by rw [hD]; exact Nat.pos_of_ne_zero (by simp)
  have hP : ∀ p ∈ ps, (encL p).length ≤ 30000 * D := fun p hp => by
    have := ih p hp (pa p hp)
    have h2 : 10 ^ depthL p ≤ D := by rw [hD]; exact Nat.pow_le_pow_right (by omega) (depth_mem ps p hp)
    have h3 := Nat.mul_le_mul_left 30000 h2
    omega
  rw [← hD]
  have h0 := Wr.enc_length_10 k.toNat (by omega)
  have h1 := Wr.enc_length_10 _ (Wr.zig_lt lo (by omega) (by omega))
  have h2 := Wr.enc_length_10 _ (Wr.zig_lt hi (by omega) (by omega))
  have h3 := nsE_len ⟨nla, nma⟩
  have h4 := rsE_len rla rua
  have h5 := Wr.enc_length_10 ns.length (by omega)
  have h6 : (encLs ps).length ≤ ps.length * (30000 * D) := by rw [encLs_map]; exact flat_len ps hP
  have h7 := encPs_len ns ps nma hP
  have p5 : k = 5 → ps.length = 1 := fun e => by
    subst e
    simp at sa
    exact (of_decide_eq_true sa).2.2.2
  have p7 : k = 7 → ps.length = 2 := fun e => by
    subst e
    simp at sa
    exact (of_decide_eq_true sa).2.2.2.1
  rw [List.length_append]
  split
  · rw [List.length_append]; omega
  · split
    · omega
    · split
      · rename_i e
        rw [p5 e] at h6
        rw [List.length_append]; omega
      · split
        · rename_i e
          have h8 : ns.length * (26 + 30000 * D) ≤ 8 * (26 + 30000 * D) := Nat.mul_le_mul_right _ (pla e)
          rw [List.length_append]; omega
        · split
          · rename_i e
            rw [p7 e] at h6
            omega
          · split
            · rw [List.length_append]; omega
            · simp; omega
end Go.Proofs.Ytoogcafceghdjaa
