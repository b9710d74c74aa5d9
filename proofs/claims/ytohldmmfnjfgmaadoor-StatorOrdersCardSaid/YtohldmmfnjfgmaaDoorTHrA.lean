
/-
  Six vectors, six numbers in arrays: cells read and written at an index that is a variable; the sums of turned vectors.
-/
import Derived.Test.YtohldmmfnjfgmaaDoorTPh
import Derived.Test.YtohldmmfnjfgmaaDoorTTurn
import Derived.Test.YtohldmmfnjfgmaaDoorTFrx
import Derived.Test.YtohldmmfnjfgmaaDoorTRgt
import Derived.Test.YtohldmmfnjfgmaaDoorTVecF
namespace Go.Proofs.YtohldmmfnjfgmaaDoor
open Go.RowKit

def updT (f : Nat → T3) (k : Nat) (v : T3) (j : Nat) : T3 := if j = k then v else f j
def updI (f : Nat → Int) (k : Nat) (v : Int) (j : Nat) : Int := if j = k then v else f j
theorem six_cases {k : Nat} (h : k < 6) : k = 0 ∨ k = 1 ∨ k = 2 ∨ k = 3 ∨ k = 4 ∨ k = 5 := by omega
theorem tc_get (f : Nat → T3) {k : Nat} (h : k < 6) : (#[.int .i64 (f 0).a, .int .i64 (f 0).b, .int .i64 (f 1).a, .int .i64 (f 1).b, .int .i64 (f 2).a, .int .i64 (f 2).b, .int .i64 (f 3).a, .int .i64 (f 3).b, .int .i64 (f 4).a, .int .i64 (f 4).b, .int .i64 (f 5).a, .int .i64 (f 5).b] : Array Value)[k * 2]? = some (.int .i64 (f k).a) ∧ (#[.int .i64 (f 0).a, .int .i64 (f 0).b, .int .i64 (f 1).a, .int .i64 (f 1).b, .int .i64 (f 2).a, .int .i64 (f 2).b, .int .i64 (f 3).a, .int .i64 (f 3).b, .int .i64 (f 4).a, .int .i64 (f 4).b, .int .i64 (f 5).a, .int .i64 (f 5).b] : Array Value)[k * 2 + 1]? = some (.int .i64 (f k).b) := by
  rcases six_cases h with rfl | rfl | rfl | rfl | rfl | rfl <;> exact ⟨rfl, rfl⟩
theorem tc_set (f : Nat → T3) {k : Nat} (h : k < 6) (v : T3) : ((#[.int .i64 (f 0).a, .int .i64 (f 0).b, .int .i64 (f 1).a, .int .i64 (f 1).b, .int .i64 (f 2).a, .int .i64 (f 2).b, .int .i64 (f 3).a, .int .i64 (f 3).b, .int .i64 (f 4).a, .int .i64 (f 4).b, .int .i64 (f 5).a, .int .i64 (f 5).b] : Array Value).setIfInBounds (k * 2) (.int .i64 v.a)).setIfInBounds (k * 2 + 1) (.int .i64 v.b) = #[.int .i64 (updT f k v 0).a, .int .i64 (updT f k v 0).b, .int .i64 (updT f k v 1).a, .int .i64 (updT f k v 1).b, .int .i64 (updT f k v 2).a, .int .i64 (updT f k v 2).b, .int .i64 (updT f k v 3).a, .int .i64 (updT f k v 3).b, .int .i64 (updT f k v 4).a, .int .i64 (updT f k v 4).b, .int .i64 (updT f k v 5).a, .int .i64 (updT f k v 5).b] := by
  rcases six_cases h with rfl | rfl | rfl | rfl | rfl | rfl <;> simp [updT]
theorem ic_get (x : Nat → Int) {k : Nat} (h : k < 6) : (#[.int .i64 (x 0), .int .i64 (x 1), .int .i64 (x 2), .int .i64 (x 3), .int .i64 (x 4), .int .i64 (x 5)] : Array Value)[k]? = some (.int .i64 (x k)) := by
  rcases six_cases h with rfl | rfl | rfl | rfl | rfl | rfl <;> rfl
theorem ic_set (x : Nat → Int) {k : Nat} (h : k < 6) (v : Int) : (#[.int .i64 (x 0), .int .i64 (x 1), .int .i64 (x 2), .int .i64 (x 3), .int .i64 (x 4), .int .i64 (x 5)] : Array Value).setIfInBounds k (.int .i64 v) = #[.int .i64 (updI x k v 0), .int .i64 (updI x k v 1), .int .i64 (updI x k v 2), .int .i64 (updI x k v 3), .int .i64 (updI x k v 4), .int .i64 (updI x k v 5)] := by
  rcases six_cases h with rfl | rfl | rfl | rfl | rfl | rfl <;> simp [updI]
theorem idxT (f : Nat → T3) {k : Nat} (h : k < 6) (W : World) : (Instr.index 25 (.agg #[.int .i64 (f 0).a, .int .i64 (f 0).b, .int .i64 (f 1).a, .int .i64 (f 1).b, .int .i64 (f 2).a, .int .i64 (f 2).b, .int .i64 (f 3).a, .int .i64 (f 3).b, .int .i64 (f 4).a, .int .i64 (f 4).b, .int .i64 (f 5).a, .int .i64 (f 5).b]) (.int .i64 (k : Int))).run Tryd.prog W = .ok (.agg #[.int .i64 (f k).a, .int .i64 (f k).b]) W := by
  rcases six_cases h with rfl | rfl | rfl | rfl | rfl | rfl <;> kernel_rfl
theorem idxI (x : Nat → Int) {k : Nat} (h : k < 6) (W : World) : (Instr.index 22 (.agg #[.int .i64 (x 0), .int .i64 (x 1), .int .i64 (x 2), .int .i64 (x 3), .int .i64 (x 4), .int .i64 (x 5)]) (.int .i64 (k : Int))).run Tryd.prog W = .ok (.int .i64 (x k)) W := by
  rcases six_cases h with rfl | rfl | rfl | rfl | rfl | rfl <;> kernel_rfl
/-- The sums so far: those ahead of k, the sum number k up to n. -/
def sumsV (f : Nat → T3) (way : Int) (k n : Nat) (j : Nat) : T3 := if j < k then tsum f way j 6 else if j = k then tsum f way k n else T3.zero
theorem sums_next (f : Nat → T3) (way : Int) (k n : Nat) : updT (sumsV f way k n) k ((tsum f way k n).add (turned (f n) (way * k * n))) = sumsV f way k (n + 1) := by
  funext j
  unfold updT sumsV
  by_cases h : j = k
  · subst h; simp [tsum]
  · simp [h]
theorem sums_row (f : Nat → T3) (way : Int) (k : Nat) : sumsV f way k 6 = sumsV f way (k + 1) 0 := by
  funext j
  unfold sumsV
  by_cases h : j < k
  · rw [if_pos h, if_pos (by omega)]
  · by_cases h2 : j = k
    · subst h2; rw [if_neg h, if_pos rfl, if_pos (by omega)]
    · rw [if_neg h, if_neg h2, if_neg (by omega)]
      by_cases h3 : j = k + 1
      · rw [if_pos h3]; rfl
      · rw [if_neg h3]
theorem sums_zero (f : Nat → T3) (way : Int) (j : Nat) : sumsV f way 0 0 j = T3.zero := by
  unfold sumsV
  rw [if_neg (by omega)]
  by_cases h : j = 0
  · rw [if_pos h]; rfl
  · rw [if_neg h]
theorem sums_at (f : Nat → T3) (way : Int) (k n : Nat) : sumsV f way k n k = tsum f way k n := by
  unfold sumsV
  rw [if_neg (by omega), if_pos rfl]
theorem sums_all (f : Nat → T3) (way : Int) (j : Nat) (h : j < 6) : sumsV f way 6 0 j = tsum f way j 6 := by
  unfold sumsV
  rw [if_pos h]
/-- A box of six vectors: one is written. -/
theorem Fr.putT {w W : World} {bs : List (Nat × TypeId × Array Value)} {g : Nat} {t : TypeId} {f : Nat → T3} (h : Fr w W ((g, t, #[.int .i64 (f 0).a, .int .i64 (f 0).b, .int .i64 (f 1).a, .int .i64 (f 1).b, .int .i64 (f 2).a, .int .i64 (f 2).b, .int .i64 (f 3).a, .int .i64 (f 3).b, .int .i64 (f 4).a, .int .i64 (f 4).b, .int .i64 (f 5).a, .int .i64 (f 5).b]) :: bs)) {k : Nat} (hk : k < 6) (v : T3) (hg : w.heap.size ≤ g) (hn : ∀ b ∈ bs, b.1 ≠ g) :
    Fr w ((W.setCell ⟨g, k * 2, none⟩ (.int .i64 v.a)).setCell ⟨g, k * 2 + 1, none⟩ (.int .i64 v.b)) ((g, t, #[.int .i64 (updT f k v 0).a, .int .i64 (updT f k v 0).b, .int .i64 (updT f k v 1).a, .int .i64 (updT f k v 1).b, .int .i64 (updT f k v 2).a, .int .i64 (updT f k v 2).b, .int .i64 (updT f k v 3).a, .int .i64 (updT f k v 3).b, .int .i64 (updT f k v 4).a, .int .i64 (updT f k v 4).b, .int .i64 (updT f k v 5).a, .int .i64 (updT f k v 5).b]) :: bs) := by
  have := (h.put (k * 2) (.int .i64 v.a) hg hn).put (k * 2 + 1) (.int .i64 v.b) hg hn
  rwa [tc_set f hk v] at this
theorem Fr.putI {w W : World} {bs : List (Nat × TypeId × Array Value)} {g : Nat} {t : TypeId} {x : Nat → Int} (h : Fr w W ((g, t, #[.int .i64 (x 0), .int .i64 (x 1), .int .i64 (x 2), .int .i64 (x 3), .int .i64 (x 4), .int .i64 (x 5)]) :: bs)) {k : Nat} (hk : k < 6) (v : Int) (hg : w.heap.size ≤ g) (hn : ∀ b ∈ bs, b.1 ≠ g) :
    Fr w (W.setCell ⟨g, k, none⟩ (.int .i64 v)) ((g, t, #[.int .i64 (updI x k v 0), .int .i64 (updI x k v 1), .int .i64 (updI x k v 2), .int .i64 (updI x k v 3), .int .i64 (updI x k v 4), .int .i64 (updI x k v 5)]) :: bs) := by
  have := h.put k (.int .i64 v) hg hn
  rwa [ic_set x hk v] at this
theorem Fr.tcell {w W : World} {bs : List (Nat × TypeId × Array Value)} {g : Nat} {t : TypeId} {f : Nat → T3} (h : Fr w W ((g, t, #[.int .i64 (f 0).a, .int .i64 (f 0).b, .int .i64 (f 1).a, .int .i64 (f 1).b, .int .i64 (f 2).a, .int .i64 (f 2).b, .int .i64 (f 3).a, .int .i64 (f 3).b, .int .i64 (f 4).a, .int .i64 (f 4).b, .int .i64 (f 5).a, .int .i64 (f 5).b]) :: bs)) {k : Nat} (hk : k < 6) : W.cell? ⟨g, k * 2, none⟩ = some (.int .i64 (f k).a) ∧ W.cell? ⟨g, k * 2 + 1, none⟩ = some (.int .i64 (f k).b) :=
  ⟨(h.top.cell (k * 2)).trans (tc_get f hk).1, (h.top.cell (k * 2 + 1)).trans (tc_get f hk).2⟩
theorem Bk.put6 {w : World} {g : Nat} {t : TypeId} {v0 v1 v2 v3 v4 v5 : Value} (h : Bk w g t #[.int .i64 0, .int .i64 0, .int .i64 0, .int .i64 0, .int .i64 0, .int .i64 0]) : Bk ((((((w.setCell ⟨g, 0, none⟩ v0).setCell ⟨g, 1, none⟩ v1).setCell ⟨g, 2, none⟩ v2).setCell ⟨g, 3, none⟩ v3).setCell ⟨g, 4, none⟩ v4).setCell ⟨g, 5, none⟩ v5) g t #[v0, v1, v2, v3, v4, v5] := by
  have := ((((((h.set_ 0 v0).set_ 1 v1).set_ 2 v2).set_ 3 v3).set_ 4 v4).set_ 5 v5)
  simpa using this
theorem Bk.put12 {w : World} {g : Nat} {t : TypeId} {v0 v1 v2 v3 v4 v5 v6 v7 v8 v9 v10 v11 : Value} (h : Bk w g t #[.int .i64 0, .int .i64 0, .int .i64 0, .int .i64 0, .int .i64 0, .int .i64 0, .int .i64 0, .int .i64 0, .int .i64 0, .int .i64 0, .int .i64 0, .int .i64 0]) : Bk ((((((((((((w.setCell ⟨g, 0, none⟩ v0).setCell ⟨g, 1, none⟩ v1).setCell ⟨g, 2, none⟩ v2).setCell ⟨g, 3, none⟩ v3).setCell ⟨g, 4, none⟩ v4).setCell ⟨g, 5, none⟩ v5).setCell ⟨g, 6, none⟩ v6).setCell ⟨g, 7, none⟩ v7).setCell ⟨g, 8, none⟩ v8).setCell ⟨g, 9, none⟩ v9).setCell ⟨g, 10, none⟩ v10).setCell ⟨g, 11, none⟩ v11) g t #[v0, v1, v2, v3, v4, v5, v6, v7, v8, v9, v10, v11] := by
  have := ((((((((((((h.set_ 0 v0).set_ 1 v1).set_ 2 v2).set_ 3 v3).set_ 4 v4).set_ 5 v5).set_ 6 v6).set_ 7 v7).set_ 8 v8).set_ 9 v9).set_ 10 v10).set_ 11 v11)
  simpa using this
theorem wpQ_abs {Q : Exit → Act → World → Prop} {e : Exit} {a : Act} {w : World} (h : ∀ w', w = w' → Q e a w') : Q e a w := h w rfl
end Go.Proofs.YtohldmmfnjfgmaaDoor
