
/-
  The walk of the reference's Fastest.
-/
import Derived.Test.YtmjooiocgeoaiaaBFs2
import Derived.Test.YtmjooiocgeoaiaaBRf2
namespace Go.Proofs.Ytmjooiocgeoaiaa
open Go.RowKit

/-- A slice and true, or false alone. -/
def RowB (w : World) (l : List Int) (ok : Bool) (e : Ending) (w' : World) : Prop := ∃ g : Hd, e = .returned (.tuple #[.slice g.A (if ok = true then l.length else 0) g.c, .bool ok]) ∧ (ok = true → Lies w' w'.heap.size g.A (ic l)) ∧ Below w.heap.size w w'
theorem rowNo {w0 w1 w : World} {l : List Int} {ok : Bool} {bs : List (Nat × TypeId × Array Value)} (h : ok = false) (hb : Below w0.heap.size w0 w1) (hf : Fr w1 w bs) : RowB w0 l ok (.returned (.tuple #[.slice none 0 0, .bool false])) w := by
  subst h
  refine ⟨⟨none, 0⟩, ?_, ?_, Below.step hb hf.bl⟩
  · rw [if_neg (by simp)]
  · intro h; cases h
theorem rowYes {w0 w1 w : World} {v : Value} {n base : Nat} {f : Nat → Int} {ok : Bool} {e : TypeId} {bs : List (Nat × TypeId × Array Value)} (h : ok = true) (ho : w.ownsRow base e 1 v n (ic (listF n f))) (hb : Below w0.heap.size w0 w1) (hf : Fr w1 w bs) : RowB w0 (listF n f) ok (.returned (.tuple #[v, .bool true])) w := by
  subst h
  obtain ⟨g, rfl, hL, _, _⟩ := own_slice ho
  exact ⟨g, by rw [if_pos rfl, listF_len], fun _ => hL, Below.step hb hf.bl⟩
theorem list_cell2 {w : World} {B : Nat} {a : Addr} {n k : Nat} {f : Nat → Int} (h : Lies w B (some a) (ic (listF n f))) (hk : k < n) : w.cell? (a.add k) = some (.int .i64 (f k)) := by
  obtain ⟨b, e, _, c⟩ := h.num (listF_at hk)
  injection e with e
  subst e
  exact c
theorem Fr.base5 {w W W' : World} {bs : List (Nat × TypeId × Array Value)} (h : Fr w W bs) (hb : Below W.heap.size W W') : Fr W W' bs := ⟨hb, fun b hm => (h.bk b hm).call hb⟩
theorem fas_bw {ps : List Bp} {b : Bs} {e0 e1 : Int} (h0 : 0 ≤ e0) (h : fasB ps b e0 e1 = true) (i : Nat) (hi : i ≤ ps.length) : 0 ≤ bwV ps b.brk e1 i := by
  obtain ⟨g1, g2⟩ := fasB_iff.1 h
  cases i with
  | zero => omega
  | succ i => have := g2 (i + 1) hi; have := fw_le_bw ps b e0 e1 i; omega
theorem fas_no1 {ps : List Bp} {b : Bs} {e0 e1 : Int} (h0 : 0 ≤ e0) (i : Nat) (hi : i ≤ ps.length) (hn : bwV ps b.brk e1 i < 0) : fasB ps b e0 e1 = false := by
  cases h : fasB ps b e0 e1 with
  | false => rfl
  | true => have := fas_bw h0 h i hi; omega
theorem fas_no2 {ps : List Bp} {b : Bs} {e0 e1 : Int} (hn : bwV ps b.brk e1 0 < e0) : fasB ps b e0 e1 = false := by
  cases h : fasB ps b e0 e1 with
  | false => rfl
  | true => have := (fasB_iff.1 h).1; omega
theorem fas_no3 {ps : List Bp} {b : Bs} {e0 e1 : Int} (i : Nat) (hi : i ≤ ps.length) (hn : fwV ps b e0 e1 i < 0) : fasB ps b e0 e1 = false := by
  cases h : fasB ps b e0 e1 with
  | false => rfl
  | true => have := (fasB_iff.1 h).2 i hi; omega
theorem drv_loss (p : Bp) (d : Int) : drvG p d = -(lossV p (-d)) := by
  unfold drvG lossV
  rw [← Int.neg_mul, show 2 * (d - 10 * p.grad) = -(2 * (-d + 10 * p.grad)) by omega]

end Go.Proofs.Ytmjooiocgeoaiaa
