
/-
  Boxes of a call's own: one is written, two change places, one is made; a row has grown.
-/
import Derived.Test.YtaghpemdcmjchaaOwn
namespace Go.Proofs.Ytaghpemdcmjchaa
open Go.RowKit

section
variable {w W : World} {bs : List (Nat × TypeId × Array Value)} {g : Nat} {t : TypeId} {cs : Array Value}
theorem Fr.put (h : Fr w W ((g, t, cs) :: bs)) (i : Nat) (u : Value) (hg : w.heap.size ≤ g) (hn : ∀ b ∈ bs, b.1 ≠ g) : Fr w (W.setCell ⟨g, i, none⟩ u) ((g, t, cs.setIfInBounds i u) :: bs) :=
  (h.tail.set (p := ⟨g, i, none⟩) hg hn u).more (h.top.set_ i u)
theorem Fr.swap {a b : Nat × TypeId × Array Value} (h : Fr w W (a :: b :: bs)) : Fr w W (b :: a :: bs) :=
  ⟨h.bl, fun c hc => h.bk c (by
    rcases List.mem_cons.1 hc with rfl | hc
    · simp
    · rcases List.mem_cons.1 hc with rfl | hc
      · simp
      · simp [hc])⟩
end
theorem Bk.of_alloc {W wA : World} {t : TypeId} {cs : Array Value} (h : W.alloc (.cells cs t) = wA) : Bk wA W.heap.size t cs := by subst h; exact Bk.new _ _ _
theorem Bk.of_alloc_drew {W wA : World} {t : TypeId} {cs : Array Value} (h : (W.alloc (.cells cs t)).drew = wA) : Bk wA W.heap.size t cs := by subst h; exact (Bk.new W t cs).drew
theorem Bk.over_alloc_drew {W wA : World} {o : Obj} {g : Nat} {t : TypeId} {cs : Array Value} (h : (W.alloc o).drew = wA) (hb : Bk W g t cs) : Bk wA g t cs := by subst h; exact (hb.alloc o).drew
theorem Bk.over_alloc {W wA : World} {o : Obj} {g : Nat} {t : TypeId} {cs : Array Value} (h : W.alloc o = wA) (hb : Bk W g t cs) : Bk wA g t cs := by subst h; exact hb.alloc o
theorem Fr.grown2 {w W W' : World} {bs : List (Nat × TypeId × Array Value)} {row : Option Nat} {n0 : Nat} (h : Fr w W bs) (hg : W.grownBy W' row) (hr : ∀ q, row = some q → n0 ≤ q) (hn : w.heap.size ≤ n0) (hb : ∀ b ∈ bs, b.1 < n0) : Fr w W' bs :=
  ⟨h.bl.grown hg h.bl.size (fun q e => by have := hr q e; omega), fun b hm => by
    have h1 := h.bk b hm
    exact (hg.block _ h1.lt (fun e => by have := hr _ e.symm; have := hb b hm; omega)).trans h1⟩

end Go.Proofs.Ytaghpemdcmjchaa
