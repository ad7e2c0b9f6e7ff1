/- Slices of the call's own, strings as bytes. -/
import Derived.Test.YtogfgcihhnblkaaDoorShaDig
import Derived.Test.YtogfgcihhnblkaaDoorAppOwn
import Derived.OwnWalk
import Derived.WalkLawsBesides
namespace Go.Proofs.YtogfgcihhnblkaaDoor
open Go.RowKit

theorem Tryd.infoU8 : (Tryd.prog.info? 5).map (fun i => (i.zero, i.size, i.bytes)) = some (some (.int .u8 0), 1, 1) := by kernel_rfl
def strBytes (s : ByteArray) : List Int := s.data.toList.map fun b => (b.toNat : Int)
theorem strBytes_length (s : ByteArray) : (strBytes s).length = s.size := by simp [strBytes]
theorem strBytes_rng (s : ByteArray) : ∀ y ∈ strBytes s, 0 ≤ y ∧ y ≤ 255 := by
  intro y hy
  simp only [strBytes, List.mem_map] at hy
  obtain ⟨b, _, rfl⟩ := hy
  have := b.toNat_lt
  omega
theorem strBytes_at (s : ByteArray) (k : Nat) (h : k < s.size) : (strBytes s)[k]? = some ((s[k]).toNat : Int) := by
  have h2 : k < s.data.toList.length := by simpa using h
  simp only [strBytes, List.getElem?_map, List.getElem?_eq_getElem h2]
  rfl
theorem strOfNums_bytes (m : List Int) (h : ∀ y ∈ m, 0 ≤ y ∧ y ≤ 255) : strBytes (strOfNums m) = m := by
  unfold strBytes
  rw [strOfNums_data, List.map_map]
  refine (List.map_congr_left fun y hy => ?_).trans (List.map_id m)
  have := h y hy
  simp
  omega

theorem own_shape {w : World} {base e size n : Nat} {v : Value} {xs : List Value} (h : w.ownsRow base e size v n xs) : ∃ ao cap, v = .slice ao n cap := by
  rcases h.2 with ⟨h1, h2⟩ | ⟨g, cap, cur, h1, _⟩
  · exact ⟨none, 0, by rw [h1, h2]⟩
  · exact ⟨_, cap, h1⟩
/-- A slice of the call's own that holds l; below B the world is as w0 was. -/
def OS (B : Nat) (w0 w : World) (v : Value) (l : List Int) : Prop := B ≤ w0.heap.size ∧ Below B w0 w ∧ w.ownsRow B 5 1 v l.length (bs l)
theorem OS.size {B : Nat} {w0 w : World} {v : Value} {l : List Int} (h : OS B w0 w v l) : B ≤ w.heap.size := Nat.le_trans h.1 h.2.1.size
theorem OS.own {B : Nat} {w0 w : World} {v : Value} {l : List Int} (h : OS B w0 w v l) : w.ownsRow B 5 1 v l.length (bs l) := h.2.2
theorem OS.bel {B : Nat} {w0 w : World} {v : Value} {l : List Int} (h : OS B w0 w v l) : Below B w0 w := h.2.1
theorem OS.alloc {B : Nat} {w0 w : World} {v : Value} {l : List Int} (h : OS B w0 w v l) (o : Obj) : OS B w0 (w.alloc o) v l := ⟨h.1, h.2.1.alloc h.size _, h.2.2.alloc o⟩
theorem OS.drew {B : Nat} {w0 w : World} {v : Value} {l : List Int} (h : OS B w0 w v l) : OS B w0 w.drew v l := ⟨h.1, h.2.1.drew, h.2.2.drew⟩
/-- Behind an append. -/
theorem OS.app {B n : Nat} {w0 w w' : World} {v v' : Value} {l m : List Int} (h : OS B w0 w v l) (hown : w'.ownsRow B 5 1 v' n (bs l ++ bs m)) (hn : n = l.length + m.length) (hg : w.grownBy w' v.ownBlock) : OS B w0 w' v' (l ++ m) := by
  subst hn
  refine ⟨h.1, h.2.1.grown hg h.size (fun k hk => (h.own.lt k hk).1), ?_⟩
  rw [bs_append, List.length_append]
  exact hown
theorem OS.src {B n cap : Nat} {w0 w : World} {ao : Option Addr} {l : List Int} (h : OS B w0 w (.slice ao n cap) l) : 0 < l.length → ∃ ad, ao = some ad ∧ ∀ j u, (bs l)[j]? = some u → w.cell? (ad.add j) = some u := by
  intro h0
  rcases h.own.2 with ⟨h1, h2⟩ | ⟨g, c, cur, h1, _, hg, _, _, _, ht⟩
  · omega
  · simp only [Value.slice.injEq] at h1
    refine ⟨_, h1.1, fun j u hu => World.news_of_block hg j u ?_⟩
    rw [← ht, List.getElem?_take] at hu
    split at hu
    · exact hu
    · cases hu
theorem os_made {w w1 : World} {n : Nat} {g : Nat} (hown : w1.ownsRow w.heap.size 5 1 (.slice (some ⟨g, 0, none⟩) 0 n) 0 []) (hgrow : w.grownBy w1 none) : OS w.heap.size w w1 (.slice (some ⟨g, 0, none⟩) 0 n) [] :=
  ⟨Nat.le_refl _, (Below.refl _ _).grown hgrow (Nat.le_refl _) (fun k h => by cases h), hown⟩

end Go.Proofs.YtogfgcihhnblkaaDoor
