
/-
  Rows of vectors of a change.
-/
import Derived.Test.YtohldmmfnjfgmaaDoorTChP
import Derived.Test.YtohldmmfnjfgmaaDoorOwn
namespace Go.Proofs.YtohldmmfnjfgmaaDoor
open Go.RowKit

theorem own_thr {w : World} {base n size : Nat} {e : TypeId} {v : Value} {xs : List Value} {x y x' y' : Int} (h : w.ownsRow base e size v n (xs ++ [.int .i64 x, .int .i64 y])) (hx : x = x') (hy : y = y') : w.ownsRow base e size v n (xs ++ [.int .i64 x', .int .i64 y']) := hx ▸ hy ▸ h
theorem hdL_flat (f t : T3) (s : Int) (k : Nat) : (hdL f t s (k + 1)).flatMap tc = (hdL f t s k).flatMap tc ++ [.int .i64 (hdP f.a t.a s (k + 1)), .int .i64 (hdP f.b t.b s (k + 1))] := by
  rw [hdL_succ, List.flatMap_append]; rfl

end Go.Proofs.YtohldmmfnjfgmaaDoor
