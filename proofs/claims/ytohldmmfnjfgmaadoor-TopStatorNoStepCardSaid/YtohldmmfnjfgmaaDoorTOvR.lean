
/-
  The walks of Overlaps and of the reference's, and what overlaps come to.
-/
import Derived.Test.YtohldmmfnjfgmaaDoorTFed
import Derived.Test.YtohldmmfnjfgmaaDoorTOv
import Derived.Test.YtohldmmfnjfgmaaDoorTEven
namespace Go.Proofs.YtohldmmfnjfgmaaDoor
open Go.RowKit

theorem Fr.grown {w W W' : World} {bs : List (Nat × TypeId × Array Value)} {row : Option Nat} {n0 : Nat} (h : Fr w W bs) (hg : W.grownBy W' row) (hr : ∀ q, row = some q → n0 ≤ q) (hn : w.heap.size ≤ n0) (hb : ∀ b ∈ bs, b.1 < n0) : Fr w W' bs :=
  ⟨h.bl.grown hg h.bl.size (fun q e => by have := hr q e; omega), fun b hm => by
    have h1 := h.bk b hm
    exact (hg.block _ h1.lt (fun e => by have := hr _ e.symm; have := hb b hm; omega)).trans h1⟩

/-- All overlaps together are how much of the train lies so far. -/
theorem ov_sum {ls : List Int} {p len : Int} (hp : Plc ls p len) : ∀ k : Nat, k ≤ ls.length → upTo (ovV ls p len) k = max 0 (min (begV ls k) (p + len) - p)
  | 0, _ => by
    have := hp.p0
    have := hp.l0
    show (0 : Int) = max 0 (min 0 (p + len) - p)
    omega
  | k + 1, h => by
    have ih := ov_sum hp k (by omega)
    have hs := begV_succ ls k (by omega)
    obtain ⟨y0, y1⟩ := inB_iff.1 (hp.x _ (List.getElem_mem (h := (by omega : k < ls.length))))
    have := hp.p0
    have := hp.l0
    rw [upTo, ih]
    unfold ovV
    omega
theorem ov_all {ls : List Int} {p len : Int} (hp : Plc ls p len) : upTo (ovV ls p len) ls.length = len := by
  rw [ov_sum hp ls.length (Nat.le_refl _)]
  have := hp.p0
  have := hp.p1
  have := hp.l0
  omega

theorem own_val {w : World} {base n size : Nat} {e : TypeId} {v : Value} {xs : List Value} {x y : Int} (h : w.ownsRow base e size v n (xs ++ [.int .i64 x])) (hxy : x = y) : w.ownsRow base e size v n (xs ++ [.int .i64 y]) := hxy ▸ h
/-- A slice that holds the overlaps. -/
def OvAt (w : World) (ls : List Int) (p len : Int) (W : World) (v : Value) : Prop := ∃ g : Hd, v = .slice g.A ls.length g.c ∧ Lies W W.heap.size g.A (ic (ovL ls p len)) ∧ Below w.heap.size w W

end Go.Proofs.YtohldmmfnjfgmaaDoor
