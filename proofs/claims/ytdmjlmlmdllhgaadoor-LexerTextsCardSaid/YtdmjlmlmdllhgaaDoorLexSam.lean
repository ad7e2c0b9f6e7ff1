/- The reference: Same, for lists that are the same. Bounds on sizes alone. -/
import Derived.Test.YtdmjlmlmdllhgaaDoorLexRlx
namespace Go.Proofs.YtdmjlmlmdllhgaaDoor
open Go.RowKit

/-- A token with whatever offset. -/
structure T4 where
  kind : Int
  text : ByteArray
  n : Int
  place : Int
def T4.q (t : T4) : QV := ⟨.int .i64 t.kind, .string t.text, .int .i64 t.n, .int .i64 t.place⟩
def Tok.t4 (t : Tok) : T4 := ⟨t.kind, t.text, t.n, t.place⟩
def qs4 (l : List T4) : List QV := l.map T4.q
theorem tqs_eq (l : List Tok) : tqs l = qs4 (l.map Tok.t4) := by
  simp only [tqs, qs4, List.map_map]
  rfl
/-- Two tokens are the same, apart from their offsets if those do not count. -/
def Eq4 (off : Bool) (a b : T4) : Prop := a.kind = b.kind ∧ a.text = b.text ∧ a.n = b.n ∧ (off = true → a.place = b.place)
def Eqs (off : Bool) (l m : List T4) : Prop := l.length = m.length ∧ ∀ (i : Nat) (a b : T4), l[i]? = some a → m[i]? = some b → Eq4 off a b
theorem eqs_refl (off : Bool) (l : List T4) : Eqs off l l := ⟨rfl, fun i a b h1 h2 => by rw [h1] at h2; cases h2; exact ⟨rfl, rfl, rfl, fun _ => rfl⟩⟩
set_option maxRecDepth 100000 in
set_option maxHeartbeats 3200000 in
theorem qsame_any (off : Bool) (l m : List T4) (ao bo : Option Addr) (n1 n2 c1 c2 : Nat) (w : World) (R1 : QRd w (.slice ao n1 c1) (qs4 l)) (R2 : QRd w (.slice bo n2 c2) (qs4 m)) (hE : Eqs off l m) :
    Calls Tryd.prog 23 #[.slice ao n1 c1, .slice bo n2 c2, .bool off] w (BlP true w) := by
  have q1 := R1.cut
  have q2 := R2.cut
  have hl1 : (qs4 l).length = l.length := by simp [qs4]
  have hl2 : (qs4 m).length = m.length := by simp [qs4]
  obtain rfl : n1 = n2 := by have := hE.1; omega
  have HC : Hid (∀ i, i < n1 → ∃ (k : Int) (t : ByteArray) (v p p2 : Int) (g o g2 o2 : Nat), ao = some ⟨g, o, none⟩ ∧ bo = some ⟨g2, o2, none⟩ ∧ (off = true → p = p2) ∧ (∀ w1, Below w.heap.size w w1 → w1.cell? ⟨g, o + i * 4, none⟩ = some (.int .i64 k) ∧ w1.cell? ⟨g, o + i * 4 + 1, none⟩ = some (.string t) ∧ w1.cell? ⟨g, o + i * 4 + 2, none⟩ = some (.int .i64 v) ∧ w1.cell? ⟨g, o + i * 4 + 3, none⟩ = some (.int .i64 p) ∧ w1.cell? ⟨g2, o2 + i * 4, none⟩ = some (.int .i64 k) ∧ w1.cell? ⟨g2, o2 + i * 4 + 1, none⟩ = some (.string t) ∧ w1.cell? ⟨g2, o2 + i * 4 + 2, none⟩ = some (.int .i64 v) ∧ w1.cell? ⟨g2, o2 + i * 4 + 3, none⟩ = some (.int .i64 p2))) := hid_of (fun i hi => by
    have h1 : i < l.length := by omega
    have h2 : i < m.length := by omega
    have e1 : (qs4 l)[i]? = some (T4.q l[i]) := by simp [qs4, List.getElem?_map, List.getElem?_eq_getElem h1]
    have e2 : (qs4 m)[i]? = some (T4.q m[i]) := by simp [qs4, List.getElem?_map, List.getElem?_eq_getElem h2]
    have he := hE.2 i _ _ (List.getElem?_eq_getElem h1) (List.getElem?_eq_getElem h2)
    obtain ⟨g, o, r1, _⟩ := R1.get e1
    obtain ⟨g2, o2, s1, _⟩ := R2.get e2
    refine ⟨l[i].kind, l[i].text, l[i].n, l[i].place, m[i].place, g, o, g2, o2, r1, s1, he.2.2.2, fun w1 hb => ?_⟩
    obtain ⟨g', o', r1', r2, r3, r4, r5⟩ := (R1.at hb).get e1
    obtain ⟨g2', o2', s1', s2, s3, s4, s5⟩ := (R2.at hb).get e2
    rw [r1] at r1'
    rw [s1] at s1'
    simp only [Option.some.injEq, Addr.mk.injEq, and_true] at r1' s1'
    obtain ⟨rfl, rfl⟩ := r1'
    obtain ⟨rfl, rfl⟩ := s1'
    refine ⟨r2, r3, r4, r5, ?_, ?_, ?_, s5⟩
    · rw [s2, he.1]; rfl
    · rw [s3, he.2.1]; rfl
    · rw [s4, he.2.2.1]; rfl)
  have hn : n1 ≤ 9223372036854775807 := by omega
  clear q1 q2 hl1 hl2 R1 R2 hE
  go_enter Tryd.func23, Tryd.ntmps23
  go_wp2
  go_loopw [7] (fun iv wr => ∃ i : Nat, iv = .int .i64 i ∧ i ≤ n1 ∧ Hid (Below w.heap.size w wr)) (fun iv _ => n1 - (intOf iv).toNat)
  case atStart => exact ⟨0, rfl, Nat.zero_le _, hid_of (Below.refl _ _)⟩
  case round =>
    obtain ⟨i, rfl, hi, hb⟩ := hrel
    by_cases hlt : i < n1
    · have d1 : decide (i < n1) = true := decide_eq_true hlt
      have hlt' : (i : Int) < (n1 : Int) := by omega
      have HLT := hid_of hlt
      obtain ⟨k, t, v, p, p2, g, o, g2, o2, rfl, rfl, hp, hc⟩ := HC.out i hlt
      obtain ⟨r1, r2, r3, r4, s1, s2, s3, s4⟩ := hc wr hb.out
      clear hlt HC hc
      cases off
      · clear hp
        go_wp2
        go_quiet (fail)
        go_wp2
        go_roundw
        case rel => exact ⟨i + 1, by go_num, HLT.out, hid_of (bel_drewN hb.out _)⟩
        case measure => have := HLT.out; simp [intOf]; omega
      · obtain rfl := hp rfl
        clear hp
        go_wp2
        go_quiet (fail)
        go_wp2
        go_roundw
        case rel => exact ⟨i + 1, by go_num, HLT.out, hid_of (bel_drewN hb.out _)⟩
        case measure => have := HLT.out; simp [intOf]; omega
    · have d1 : decide (i < n1) = false := decide_eq_false hlt
      go_wp2
      go_ret
      exact ⟨rfl, hb.out⟩
end Go.Proofs.YtdmjlmlmdllhgaaDoor
