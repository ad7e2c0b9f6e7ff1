/- The walk of WireCut. No condition. -/
import Derived.Test.YtijjaoabkbeeeaaWireCutZ
namespace Go.Proofs.Ytijjaoabkbeeeaa
open Go.RowKit Go.ChangeShapes Go.WideShapes

theorem open_items_c {H : Type} {enc : TypeId × Value → H} {w : World} {fuel a0l cap : Nat} {a0 : Option Addr} {x : DataW H × List MemPlace} (h : DataW.trod enc Try.prog w 0 (fun _ => true) true fuel 22 [.slice a0 a0l cap] = some x) :
    a0l = 0 ∨ ∃ a o its, a0 = some ⟨a, o, none⟩ ∧ its.length = a0l ∧ 0 < a0l ∧ a0l ≤ cap ∧ cap ≤ 9223372036854775807 ∧ Raw w a o its := by
  rcases open_items h with h0 | ⟨a, o, its, h1, h2, h3, h4⟩
  · exact Or.inl h0
  · rcases Go.Deep.open_slice Try.underlying22 h with ⟨e, _⟩ | ⟨ad, len, cap', m, n, D, Pl, e, _, hlc, hcm, hm, _, hel⟩
    · left; simp at e; exact e.2.1
    · simp only [List.cons.injEq, Value.slice.injEq, and_true] at e
      obtain ⟨rfl, rfl, rfl⟩ := e
      unfold maxLen at hcm
      exact Or.inr ⟨a, o, its, h1, h2, h3, hlc, hcm, h4⟩

theorem written_at (a o o' i n1 cap : Nat) (its : List It) (x : It) (w : World) (h : Items w.heap.size w a o its) (hx : its[i]? = some x) (hm : x.m.length ≤ 2000) (ho : o' = o + i * 3) (hn : n1 = 1) :
    Calls Try.prog 12 #[.slice (some ⟨a, o', none⟩) n1 cap] w fun e w' => ∃ g, e = .returned (.slice (some ⟨g, 0, none⟩) (encIt x).length (encIt x).length) ∧ Below w.heap.size w w' := by
  subst ho hn
  have hok := h.ok x (List.mem_of_getElem? hx)
  have hI : Items w.heap.size w a (o + i * 3) [x] := by
    refine ⟨fun _ => h.lt (by obtain ⟨hi, _⟩ := List.getElem?_eq_some_iff.1 hx; omega), ?_, ?_, ?_, ?_⟩
    · intro k y hy
      match k, hy with
      | 0, hy => simp at hy; subst hy; simpa using h.c0 i x hx
    · intro k y hy
      match k, hy with
      | 0, hy => simp at hy; subst hy; simpa using h.c1 i x hx
    · intro k y hy
      match k, hy with
      | 0, hy => simp at hy; subst hy; simpa using h.c2 i x hx
    · intro y hy
      simp at hy; subst hy; exact hok
  have hb : ∀ k, (encAll ([x].take k)).length ≤ 60000000000000 := by
    intro k
    cases k with
    | zero => simp [encAll]
    | succ k =>
      have := encIt_le20 x hok.n hok.len
      rw [List.take_of_length_le (by simp), encAll_one]
      omega
  refine (written_any a (o + i * 3) [x] cap w hI (by simp) hb).mono fun e w' ⟨g, he, h1, h2, h3⟩ => ⟨g, ?_, h3⟩
  rw [he, encAll_one]

theorem cut_src {w2 w : World} {g n : Nat} {E : List Int} (hr : w2.heap[g]? = some (.cells (bs E).toArray 5 (0, 0))) (hw : w.heap[g]? = w2.heap[g]?) :
    0 < (E.take n).length → ∃ ad, (some (⟨g, 0, none⟩ : Addr)) = some ad ∧ ∀ j u, (bs (E.take n))[j]? = some u → w.cell? (ad.add j) = some u :=
  fun _ => ⟨_, rfl, fun j u hu => World.news_of_block (hw.trans hr) j u (by
    simp only [bs, List.map_take, List.getElem?_take] at hu
    split at hu
    · simpa [bs] using hu
    · cases hu)⟩

/-- The Reader stands at off; below, nothing has turned. -/
def At (w wr : World) (b g : Nat) (d : List Int) (off : Nat) (err : Int) : Prop := (∃ last, Rst wr b g d off last err) ∧ Below w.heap.size w wr
theorem At.got {w wr w' : World} {b g off off' : Nat} {d : List Int} (h : At w wr b g d off 0) (hb : w.heap.size ≤ b) (hg : Got wr w' b g d off') : At w w' b g d off' 0 := by
  obtain ⟨l, h1, h2⟩ := hg
  exact ⟨⟨l, h1⟩, h.2.trans (h2.below h.2.size (fun k hk => by omega))⟩
theorem At.gone {w wr w' : World} {b g off : Nat} {d : List Int} {err : Int} (h : Below w.heap.size w wr) (hb : w.heap.size ≤ b) (hg : Gone wr w' b g d off) : At w w' b g d off 2 := by
  obtain ⟨l, h1, h2⟩ := hg
  exact ⟨⟨l, h1⟩, h.trans (h2.below h.size (fun k hk => by omega))⟩
theorem At.later {w wr w' : World} {b g off : Nat} {d : List Int} {err : Int} (h : At w wr b g d off err) (hb : Below wr.heap.size wr w') : At w w' b g d off err := by
  obtain ⟨⟨l, h1⟩, h2⟩ := h
  exact ⟨⟨l, h1.same (hb.block b h1.blt) (hb.block g h1.glt)⟩, h2.trans (hb.mono h2.size)⟩
theorem At.err {w wr : World} {b g off : Nat} {d : List Int} {err : Int} (h : At w wr b g d off err) :
    Calls Try.prog 16 #[.pointer (some ⟨b, 0, none⟩)] wr fun e w' => e = .returned (.int .i64 err) ∧ wr = w' := by
  obtain ⟨⟨l, h1⟩, _⟩ := h; exact err_any b g off l d err wr h1
theorem At.offset {w wr : World} {b g off : Nat} {d : List Int} {err : Int} (h : At w wr b g d off err) :
    Calls Try.prog 17 #[.pointer (some ⟨b, 0, none⟩)] wr fun e w' => e = .returned (.int .i64 off) ∧ wr = w' := by
  obtain ⟨⟨l, h1⟩, _⟩ := h; exact offset_any b g off l d err wr h1
theorem At.end2 {w wr : World} {b g off : Nat} {d : List Int} (h : At w wr b g d off 2) :
    Calls Try.prog 19 #[.pointer (some ⟨b, 0, none⟩)] wr fun e w' => e = .returned (.int .i64 2) ∧ Drew wr w' := by
  obtain ⟨⟨l, h1⟩, _⟩ := h; exact end_bad b g off l d 2 wr h1 (Or.inl rfl)
theorem At.get {w wr : World} {b g off : Nat} {d r : List Int} {x : It} (h : At w wr b g d off 0) (hb : w.heap.size ≤ b) (hok : ItOk w.heap.size w x) (hd : d.drop off = encIt x ++ r) :
    Calls Try.prog 15 #[.pointer (some ⟨b, 0, none⟩), .agg #[.int .i64 x.kind, .int .u64 x.n, .slice x.ao x.m.length x.cap]] wr fun e w' => e = .returned (.bool true) ∧ At w w' b g d (off + (encIt x).length) 0 := by
  obtain ⟨⟨l, h1⟩, h2⟩ := id h
  exact (get_any x b g off l d r wr h1 hok.n hok.len (reads_off hok h2 hb) hd).mono fun e w' ⟨he, hg⟩ => ⟨he, h.got hb hg⟩
theorem At.zero {w wr : World} {b g off : Nat} {d : List Int} {err : Int} {x : It} (h : At w wr b g d off err) (hb : w.heap.size ≤ b) (hf : err = 2 ∨ (err = 0 ∧ Fails x (d.drop off))) :
    Calls Try.prog 25 #[.pointer (some ⟨b, 0, none⟩), .agg #[.int .i64 x.kind, .int .u64 x.n, .slice x.ao x.m.length x.cap]] wr fun e w' => e = .returned (.bool true) ∧ At w w' b g d off 2 := by
  obtain ⟨⟨l, h1⟩, h2⟩ := id h
  exact (zero_any x b g off l d err wr h1 hf).mono fun e w' ⟨he, hg⟩ => ⟨he, At.gone (err := err) h2 hb hg⟩

set_option maxRecDepth 100000 in
set_option maxHeartbeats 1600000 in
theorem cut_main (a o : Nat) (its : List It) (cap : Nat) (n : Nat) (w : World) (h : Items w.heap.size w a o its) (hs : Small its) (hcap : its.length ≤ cap) (hcap2 : cap ≤ 9223372036854775807) (E : List Int) (hE : E = encAll its) (hn : n < E.length) :
    Calls Try.prog 6 #[.slice (some ⟨a, o, none⟩) its.length cap, .int .i64 n] w fun e w' => e = .returned (.bool true) ∧ Below w.heap.size w w' := by
  have hEl0 : (encAll its).length ≤ 60000000000000 := by have := small_bound its (fun x hx => (h.ok x hx).n) hs its.length; rwa [List.take_length] at this
  have HER : Hid (∀ y ∈ E.take n, 0 ≤ y ∧ y ≤ 255) := hid_of (by rw [hE]; exact fun y hy => encAll_rng its (fun x hx => (h.ok x hx).rng) y (List.mem_of_mem_take hy))
  have hlen := hs.1
  have HB := hid_of (small_bound its (fun x hx => (h.ok x hx).n) hs)
  have HI := hid_of h
  have HS := hid_of hs
  have HE := hid_of hE
  have hEl : E.length ≤ 60000000000000 := by rw [hE]; exact hEl0
  have HTL : Hid ((E.take n).length = n) := hid_of (by rw [List.length_take]; omega)
  have HDL : Hid ((E.take n).length ≤ 140737488351232) := hid_of (by rw [List.length_take]; omega)
  clear h hs hE hEl0
  have d1 : decide ((E.length : Int) ≤ (n : Int)) = false := by simp; omega
  have d2 : decide ((n : Int) < 0) = false := by simp
  go_enter Try.func6, Try.ntmps6
  go_wp2_with (first
    | (go_at_call 10; refine (awake_any w).mono ?_; rintro e w1 ⟨rfl, h1⟩; have H1 := hid_of h1; clear h1)
    | (go_at_call 11; refine (small_true a o its cap w1 (by omega) (HI.out.later H1.out H1.out.size) HS.out).mono ?_; rintro e w' ⟨rfl, rfl⟩)
    | (go_at_call 12; refine (written_any_E a o its cap E w1 HE.out (HI.out.later H1.out H1.out.size) (by omega) HB.out).mono ?_; rintro e w2 ⟨g2, rfl, hr2, _, hb2⟩; have HR2 := hid_of hr2; have HB2 := hid_of hb2; clear hr2 hb2)
    | (go_at_call 14; refine (newReader_n (some ⟨g2, 0, none⟩) (E.take n) n _ w2 HTL.out HER.out HDL.out (cut_src HR2.out rfl)).mono ?_; rintro e w5 ⟨b, g, rfl, h5, hb5, hbb, _⟩; have H5 := hid_of h5; have HB5 := hid_of hb5; have HBB := hid_of hbb; clear h5 hb5 hbb))
  have HBL : Hid (Below w.heap.size w w5) := hid_of ((H1.out.trans (HB2.out.mono H1.out.size)).trans (HB5.out.mono (Nat.le_trans H1.out.size HB2.out.size)))
  have HBW : Hid (w.heap.size ≤ b) := hid_of (by have := HBB.out; have := H1.out.size; have := HB2.out.size; omega)
  clear d1 d2
  go_loopw [7, 8] (fun av iv wr => ∃ k : Nat, k ≤ its.length ∧ iv = .int .i64 k ∧ av = .int .i64 ((encAll (its.take k)).length : Nat) ∧ (encAll (its.take k)).length ≤ n ∧ Hid (At w wr b g (E.take n) (encAll (its.take k)).length 0)) (fun _ i _ => its.length - (intOf i).toNat)
  case atStart => exact ⟨0, Nat.zero_le _, rfl, by simp [encAll], by simp [encAll], hid_of ⟨⟨0, by simpa [encAll] using H5.out⟩, HBL.out⟩⟩
  case round =>
    obtain ⟨k, hk, rfl, rfl, hpn, hat⟩ := hrel
    obtain ⟨p, hp⟩ : ∃ p, p = (encAll (its.take k)).length := ⟨_, rfl⟩
    rw [← hp] at hpn hat ⊢
    have HP := hid_of hp
    clear hp
    by_cases hlt : k < its.length
    · obtain ⟨x, hx⟩ : ∃ x, its[k]? = some x := ⟨its[k], by simp [hlt]⟩
      have ha := HI.out.lt (by omega)
      have hok := HI.out.ok x (List.mem_of_getElem? hx)
      have hx2 : x.m.length ≤ 2000 := by have := mem_tot (List.mem_of_getElem? hx); have := HS.out.2; omega
      have hxl : (encIt x).length ≤ 2020 := by have := encIt_le20 x hok.n hok.len; omega
      have hbel := hat.out.2
      have HOK := hid_of hok
      have HX := hid_of hx
      have HIW := hid_of (HI.out.later hbel hbel.size)
      have hwo := hbel.size
      by_cases hnx : p + (encIt x).length ≤ n
      · obtain ⟨r, hr⟩ := cut_whole hx (n := n) (by rw [← HP.out]; exact hnx)
        rw [← HP.out, ← HE.out] at hr
        have HDR := hid_of hr
        clear hx hbel hok hr
        go_wp2_with (first
          | (go_at_call 12; refine (written_at a o _ k _ _ its x wr HIW.out HX.out hx2 (by omega) (by omega)).mono ?_; rintro e w3 ⟨g3, rfl, hb3⟩; have HAT3 := hid_of (At.later hat.out hb3); have hb03 := HAT3.out.2; have c0 := (hb03.cell (p := ⟨a, o + k * 3, none⟩) ha).trans (HI.out.c0 k x HX.out); have c1 := (hb03.cell (p := ⟨a, o + k * 3 + 1, none⟩) ha).trans (HI.out.c1 k x HX.out); have c2 := (hb03.cell (p := ⟨a, o + k * 3 + 2, none⟩) ha).trans (HI.out.c2 k x HX.out); clear hb3 hb03)
          | (go_at_call 15; refine (At.get HAT3.out HBW.out HOK.out HDR.out).mono ?_; rintro e w6 ⟨rfl, h6⟩; have H6 := hid_of h6; clear h6)
          | (go_at_call 17; refine (At.offset H6.out).mono ?_; rintro e w' ⟨rfl, rfl⟩))
        go_roundw
        case rel =>
          refine ⟨k + 1, by omega, by go_num, ?_, ?_, ?_⟩
          · rw [encAll_take_succ its k x HX.out, List.length_append, ← HP.out]; go_num
          · rw [encAll_take_succ its k x HX.out, List.length_append, ← HP.out]; exact hnx
          · rw [encAll_take_succ its k x HX.out, List.length_append, ← HP.out]; exact H6
        case measure => simp [intOf]; omega
      · have hF := cut_fails hx hok.len (n := n) (by rw [← HP.out]; exact hpn) (by rw [← HP.out]; omega)
        rw [← HP.out, ← HE.out] at hF
        have HF := hid_of hF
        clear hx hbel hok hF
        go_wp2_with (go_at_call 12; refine (written_at a o _ k _ _ its x wr HIW.out HX.out hx2 (by omega) (by omega)).mono ?_; rintro e w3 ⟨g3, rfl, hb3⟩; have HAT3 := hid_of (At.later hat.out hb3); clear hb3)
        go_loopw [10] (fun kv wq => ∃ (q : Nat) (er : Int), k ≤ q ∧ q ≤ its.length ∧ kv = .int .i64 q ∧ Hid ((er = 2 ∨ (er = 0 ∧ q = k)) ∧ At w wq b g (E.take n) p er)) (fun kv _ => its.length - (intOf kv).toNat)
        case atStart => exact ⟨k, 0, Nat.le_refl _, hk, rfl, hid_of ⟨Or.inr ⟨rfl, rfl⟩, HAT3.out⟩⟩
        case round =>
          rename_i wq _
          obtain ⟨q, er, hkq, hq, rfl, hin⟩ := hrel
          by_cases hlt2 : q < its.length
          · obtain ⟨y, hy⟩ : ∃ y, its[q]? = some y := ⟨its[q], by simp [hlt2]⟩
            have hbq := hin.out.2.2
            have c0 := (hbq.cell (p := ⟨a, o + q * 3, none⟩) ha).trans (HI.out.c0 q y hy)
            have c1 := (hbq.cell (p := ⟨a, o + q * 3 + 1, none⟩) ha).trans (HI.out.c1 q y hy)
            have c2 := (hbq.cell (p := ⟨a, o + q * 3 + 2, none⟩) ha).trans (HI.out.c2 q y hy)
            have HZ : Hid (er = 2 ∨ (er = 0 ∧ Fails y ((E.take n).drop p))) := hid_of (hin.out.1.imp id (fun h => ⟨h.1, by
              have h2 := h.2
              subst h2
              have h3 := hy.symm.trans HX.out
              simp only [Option.some.injEq] at h3
              rw [h3]; exact HF.out⟩))
            clear hy hbq
            go_wp2_with (first
              | (go_at_call 25; refine (At.zero hin.out.2 HBW.out HZ.out).mono ?_; rintro e w6 ⟨rfl, h6⟩; have H6 := hid_of h6; clear h6)
              | (go_at_call 16; refine (At.err H6.out).mono ?_; rintro e w' ⟨rfl, rfl⟩)
              | (go_at_call 17; refine (At.offset H6.out).mono ?_; rintro e w' ⟨rfl, rfl⟩))
            go_roundw
            case rel => exact ⟨q + 1, 2, by omega, by omega, by go_num, hid_of ⟨Or.inl rfl, H6.out⟩⟩
            case measure => simp [intOf]; omega
          · obtain rfl : q = its.length := by omega
            obtain ⟨h1, h2⟩ := hin.out
            obtain rfl : er = 2 := by
              rcases h1 with h1 | h1
              · exact h1
              · omega
            have H7 := hid_of h2
            clear h1 h2
            go_wp2_with (go_at_call 19; refine (At.end2 H7.out).mono ?_; rintro e w' ⟨rfl, m8, rfl⟩)
            go_ret
            exact ⟨rfl, below_drewN H7.out.2 _⟩
    · obtain rfl : k = its.length := by omega
      have := HP.out
      rw [List.take_length, ← HE.out] at this
      omega

set_option maxRecDepth 100000 in
set_option maxHeartbeats 800000 in
theorem cut_out (a o : Nat) (its : List It) (cap : Nat) (n : Int) (w : World) (h : Items w.heap.size w a o its) (hs : Small its) (E : List Int) (hE : E = encAll its) (hn : n < 0 ∨ (E.length : Int) ≤ n) :
    Calls Try.prog 6 #[.slice (some ⟨a, o, none⟩) its.length cap, .int .i64 n] w fun e w' => e = .returned (.bool true) ∧ Below w.heap.size w w' := by
  have hlen := hs.1
  have HB := hid_of (small_bound its (fun x hx => (h.ok x hx).n) hs)
  have HI := hid_of h
  have HS := hid_of hs
  have HE := hid_of hE
  clear h hs hE
  rcases hn with hn | hn
  · go_enter Try.func6, Try.ntmps6
    go_wp2_with (first
      | (go_at_call 10; refine (awake_any w).mono ?_; rintro e w1 ⟨rfl, h1⟩; have H1 := hid_of h1; clear h1)
      | (go_at_call 11; refine (small_true a o its cap w1 (by omega) (HI.out.later H1.out H1.out.size) HS.out).mono ?_; rintro e w' ⟨rfl, rfl⟩)
      | (go_at_call 12; refine (written_any_E a o its cap E w1 HE.out (HI.out.later H1.out H1.out.size) (by omega) HB.out).mono ?_; rintro e w2 ⟨g2, rfl, _, _, hb2⟩; have HB2 := hid_of hb2; clear hb2))
    go_ret
    exact ⟨rfl, H1.out.trans (HB2.out.mono H1.out.size)⟩
  · have hn0 : ¬ n < 0 := by omega
    go_enter Try.func6, Try.ntmps6
    go_wp2_with (first
      | (go_at_call 10; refine (awake_any w).mono ?_; rintro e w1 ⟨rfl, h1⟩; have H1 := hid_of h1; clear h1)
      | (go_at_call 11; refine (small_true a o its cap w1 (by omega) (HI.out.later H1.out H1.out.size) HS.out).mono ?_; rintro e w' ⟨rfl, rfl⟩)
      | (go_at_call 12; refine (written_any_E a o its cap E w1 HE.out (HI.out.later H1.out H1.out.size) (by omega) HB.out).mono ?_; rintro e w2 ⟨g2, rfl, _, _, hb2⟩; have HB2 := hid_of hb2; clear hb2))
    go_ret
    exact ⟨rfl, H1.out.trans (HB2.out.mono H1.out.size)⟩

set_option maxRecDepth 100000 in
set_option maxHeartbeats 800000 in
theorem cut_big (a o : Nat) (its : List It) (cap : Nat) (n : Int) (w : World) (hl : its.length ≤ 9223372036854775807) (ha : a < w.heap.size) (hc : ∀ i x, its[i]? = some x → w.cell? ⟨a, o + i * 3 + 2, none⟩ = some (.slice x.ao x.m.length x.cap)) (hm : ∀ x ∈ its, x.m.length ≤ 9223372036854775807) (hs : ¬ Small its) :
    Calls Try.prog 6 #[.slice (some ⟨a, o, none⟩) its.length cap, .int .i64 n] w fun e w' => e = .returned (.bool true) ∧ Below w.heap.size w w' := by
  have HC := hid_of hc
  have HM := hid_of hm
  have HS := hid_of hs
  clear hc hm hs
  go_enter Try.func6, Try.ntmps6
  go_wp2_with (first
    | (go_at_call 10; refine (awake_any w).mono ?_; rintro e w1 ⟨rfl, h1⟩; have H1 := hid_of h1; clear h1; have HC1 : Hid (∀ i x, its[i]? = some x → w1.cell? ⟨a, o + i * 3 + 2, none⟩ = some (.slice x.ao x.m.length x.cap)) := hid_of fun i x hx => (H1.out.cell (p := ⟨a, o + i * 3 + 2, none⟩) ha).trans (HC.out i x hx))
    | (go_at_call 11; refine (small_false a o its cap w1 hl HC1.out HM.out HS.out).mono ?_; rintro e w' ⟨rfl, rfl⟩))
  go_ret
  exact ⟨rfl, H1.out⟩

set_option maxRecDepth 100000 in
set_option maxHeartbeats 800000 in
theorem cut_nil (ao : Option Addr) (cap : Nat) (n : Int) (w : World) :
    Calls Try.prog 6 #[.slice ao 0 cap, .int .i64 n] w fun e w' => e = .returned (.bool true) ∧ Below w.heap.size w w' := by
  by_cases hn : n < 0
  · go_enter Try.func6, Try.ntmps6
    go_wp2_with (first
      | (go_at_call 10; refine (awake_any w).mono ?_; rintro e w1 ⟨rfl, h1⟩; have H1 := hid_of h1; clear h1)
      | (go_at_call 11; refine (small_nil ao cap w1).mono ?_; rintro e w' ⟨rfl, rfl⟩)
      | (go_at_call 12; refine (written_nil ao cap w1).mono ?_; rintro e w2 ⟨g2, rfl, _, _, hb2⟩; have HB2 := hid_of hb2; clear hb2))
    go_ret
    exact ⟨rfl, H1.out.trans (HB2.out.mono H1.out.size)⟩
  · have hn0 : 0 ≤ n := by omega
    go_enter Try.func6, Try.ntmps6
    go_wp2_with (first
      | (go_at_call 10; refine (awake_any w).mono ?_; rintro e w1 ⟨rfl, h1⟩; have H1 := hid_of h1; clear h1)
      | (go_at_call 11; refine (small_nil ao cap w1).mono ?_; rintro e w' ⟨rfl, rfl⟩)
      | (go_at_call 12; refine (written_nil ao cap w1).mono ?_; rintro e w2 ⟨g2, rfl, _, _, hb2⟩; have HB2 := hid_of hb2; clear hb2))
    go_ret
    exact ⟨rfl, H1.out.trans (HB2.out.mono H1.out.size)⟩

theorem cut_law (a0 : Option Addr) (len0 cap0 : Nat) (a1 : Int) (w : World) (w0 : len0 = 0 ∨ ∃ a o its, a0 = some ⟨a, o, none⟩ ∧ its.length = len0 ∧ 0 < len0 ∧ len0 ≤ cap0 ∧ cap0 ≤ 9223372036854775807 ∧ Raw w a o its) :
    Calls Try.prog 6 #[.slice a0 len0 cap0, .int .i64 a1] w fun e w' => e = .returned (.bool true) ∧ Below w.heap.size w w' := by
  rcases w0 with rfl | ⟨a, o, its, rfl, rfl, h0, hc1, hc2, hr⟩
  · exact cut_nil a0 cap0 a1 w
  · by_cases hs : Small its
    · by_cases hn : a1 < 0 ∨ ((encAll its).length : Int) ≤ a1
      · exact cut_out a o its cap0 a1 w (hr.items hs) hs _ rfl hn
      · obtain ⟨n, rfl⟩ : ∃ n : Nat, a1 = n := ⟨a1.toNat, by omega⟩
        exact cut_main a o its cap0 n w (hr.items hs) hs hc1 hc2 _ rfl (by omega)
    · exact cut_big a o its cap0 a1 w hr.len (hr.lt h0) hr.c2 hr.ml hs

end Go.Proofs.Ytijjaoabkbeeeaa
