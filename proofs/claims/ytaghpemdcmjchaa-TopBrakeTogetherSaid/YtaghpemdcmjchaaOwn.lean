
/-
  Rows and boxes of a call's own: what stays of them behind calls, stores and appends.
-/
import Derived.Test.YtaghpemdcmjchaaKit
import Derived.Test.YtaghpemdcmjchaaRows
import Derived.Deep.AppendSrc
import Derived.OwnWalk
import Derived.RangeFuncNested
import Derived.RangeFuncBound
import Derived.RangeFuncCalls
import Derived.RangeFuncLeaves
import Derived.RangeFuncFrom
import Derived.Shelf.RegionOpen
import Derived.OwnWalkIn
import Derived.TacticsInMore
import Derived.LoopNIn
import Derived.LoopIn
namespace Go.Proofs.Ytaghpemdcmjchaa
open Go.RowKit

/-- A head of a slice that is nil if it begins nowhere. -/
def HdOk (g : Hd) : Prop := g.A = none → g.c = 0
theorem info_int : (Try.prog.info? 3).map (fun i => (i.zero, i.size, i.bytes)) = some (some (.int .i64 0), 1, 8) := by kernel_rfl
theorem own_slice {w : World} {base n size : Nat} {e : TypeId} {v : Value} {xs : List Value} (h : w.ownsRow base e size v n xs) : ∃ h : Hd, v = .slice h.A n h.c ∧ Lies w w.heap.size h.A xs ∧ HdOk h ∧ (∀ a, h.A = some a → base ≤ a.block) := by
  rcases h.2 with ⟨e1, hn⟩ | ⟨g, cap, cur, e1, hb, _⟩
  · subst e1
    subst hn
    exact ⟨⟨none, 0⟩, rfl, Lies.of_own h, fun _ => rfl, fun a h => by cases h⟩
  · subst e1
    exact ⟨⟨some ⟨g, 0, none⟩, cap⟩, rfl, Lies.of_own h, (fun h => by cases h), fun a h => by cases h; exact hb⟩

theorem own_keep {w w' : World} {base n size : Nat} {e : TypeId} {v : Value} {xs : List Value} (h : w.ownsRow base e size v n xs) (hk : ∀ g, v.ownBlock = some g → w'.heap[g]? = w.heap[g]?) : w'.ownsRow base e size v n xs := by
  refine ⟨h.1, ?_⟩
  rcases h.2 with hn | ⟨g, cap, cur, rfl, hb, hgg, rest⟩
  · exact .inl hn
  · exact .inr ⟨g, cap, cur, rfl, hb, (hk g rfl).trans hgg, rest⟩
theorem own_below {w w' : World} {base n size : Nat} {e : TypeId} {v : Value} {xs : List Value} (h : w.ownsRow base e size v n xs) (hb : Below w.heap.size w w') : w'.ownsRow base e size v n xs :=
  own_keep h fun g hg => hb.block g (h.lt g hg).2
theorem own_ne {w : World} {b1 b2 n1 n2 s1 s2 : Nat} {e1 e2 : TypeId} {v1 v2 : Value} {x1 x2 : List Value} (h1 : w.ownsRow b1 e1 s1 v1 n1 x1) (h2 : w.ownsRow b2 e2 s2 v2 n2 x2) (hne : e1 ≠ e2) {g : Nat} (hg : v1.ownBlock = some g) : v2.ownBlock ≠ some g := by
  intro hg2
  rcases h1.2 with ⟨rfl, _⟩ | ⟨g1, c1, cur1, rfl, _, hh1, _⟩
  · simp [Value.ownBlock] at hg
  · rcases h2.2 with ⟨rfl, _⟩ | ⟨g2, c2, cur2, rfl, _, hh2, _⟩
    · simp [Value.ownBlock] at hg2
    · simp [Value.ownBlock] at hg hg2
      subst hg
      subst hg2
      rw [hh1] at hh2
      simp at hh2
      exact hne hh2.2
theorem own_grown {w w' : World} {b1 b2 n1 n2 s1 s2 : Nat} {e1 e2 : TypeId} {v1 v2 : Value} {x1 x2 : List Value} (h1 : w.ownsRow b1 e1 s1 v1 n1 x1) (h2 : w.ownsRow b2 e2 s2 v2 n2 x2) (hne : e1 ≠ e2) (hg : w.grownBy w' v2.ownBlock) : w'.ownsRow b1 e1 s1 v1 n1 x1 :=
  own_keep h1 fun g hv => hg.block g (h1.lt g hv).2 (fun e => own_ne h1 h2 hne hv e.symm)
theorem own_more {w : World} {base b' n size : Nat} {e : TypeId} {v : Value} {xs : List Value} (h : w.ownsRow base e size v n xs) (hb : b' ≤ base) : w.ownsRow b' e size v n xs := by
  refine ⟨h.1, ?_⟩
  rcases h.2 with hn | ⟨g, cap, cur, rfl, hbb, rest⟩
  · exact .inl hn
  · exact .inr ⟨g, cap, cur, rfl, by omega, rest⟩
theorem own_lies {w : World} {base n size : Nat} {e : TypeId} {g : Hd} {xs : List Value} (h : w.ownsRow base e size (.slice g.A n g.c) n xs) : Lies w w.heap.size g.A xs ∧ HdOk g := by
  obtain ⟨k, hk, h1, h2, _⟩ := own_slice h
  simp only [Value.slice.injEq] at hk
  obtain ⟨A, c⟩ := g
  obtain ⟨A', c'⟩ := k
  simp only at hk
  obtain ⟨rfl, _, rfl⟩ := hk
  exact ⟨h1, h2⟩

theorem Bk.adds {w : World} {g : Nat} {t : TypeId} {cs : Array Value} (h : Bk w g t cs) : ∀ j u, cs.toList[j]? = some u → w.cell? ((⟨g, 0, none⟩ : Addr).add j) = some u := by
  intro j u hu
  have : (⟨g, 0, none⟩ : Addr).add j = ⟨g, j, none⟩ := by unfold Addr.add; split <;> simp_all
  rw [this, h.cell j]
  simpa using hu
theorem Lies.adds {w : World} {B : Nat} {a : Addr} {vs : List Value} (h : Lies w B (some a) vs) : ∀ j u, vs[j]? = some u → w.cell? (a.add j) = some u := fun j u hu => by
  obtain ⟨a', e, _, hc⟩ := h j u hu; cases e; exact hc
theorem Lies.none_nil {w : World} {B : Nat} {vs : List Value} (h : Lies w B none vs) : vs = [] := by
  cases vs with
  | nil => rfl
  | cons x l => obtain ⟨a, e, _⟩ := h 0 x rfl; cases e

theorem own_far {w : World} {base n size : Nat} {e : TypeId} {v : Value} {xs : List Value} {p : Addr} {u : Value} (h : w.ownsRow base e size v n xs) (hb : p.block < base) : (w.setCell p u).ownsRow base e size v n xs :=
  own_keep h fun g hg => Below.heap_setCell w p u g (by have := h.lt g hg; omega)
theorem ic_one (l : List Int) : ∀ u ∈ ic l, u.oneCell' = true := by
  intro u hu
  obtain ⟨x, _, rfl⟩ := List.mem_map.1 hu
  rfl
theorem flat_len {α : Type} (f : α → List Value) (n : Nat) (hf : ∀ a, (f a).length = n) : ∀ l : List α, (l.flatMap f).length = l.length * n
  | [] => by simp
  | a :: l => by simp [List.flatMap_cons, hf, flat_len f n hf l, Nat.succ_mul, Nat.add_comm]

theorem own_not {w : World} {B n size : Nat} {e t : TypeId} {g q c : Nat} {xs : List Value} {cs : Array Value} (ho : w.ownsRow B e size (.slice (some ⟨g, 0, none⟩) n c) n xs) (hb : Bk w q t cs) (hne : e ≠ t) : q ≠ g := by
  rintro rfl
  rcases ho.2 with ⟨h, _⟩ | ⟨g', cap, cur, h, _, hg, _⟩
  · cases h
  · simp only [Value.slice.injEq, Option.some.injEq, Addr.mk.injEq, and_true, true_and] at h
    obtain ⟨rfl, _⟩ := h
    unfold Bk at hb
    rw [hb] at hg
    injection hg with hg
    injection hg with _ h2 _
    exact hne h2.symm

theorem own_off {w : World} {B n size : Nat} {e t : TypeId} {v : Value} {xs : List Value} {p : Addr} {u : Value} {cs : Array Value} (h : w.ownsRow B e size v n xs) (hb : Bk w p.block t cs) (hne : e ≠ t) : (w.setCell p u).ownsRow B e size v n xs :=
  own_keep h fun g hg => Below.heap_setCell w p u g (fun e' => by
    rcases h.2 with ⟨rfl, _⟩ | ⟨g', cap, cur, rfl, _, hh, _⟩
    · simp [Value.ownBlock] at hg
    · simp [Value.ownBlock] at hg
      subst hg
      rw [e'] at hh
      unfold Bk at hb
      rw [hb] at hh
      injection hh with hh
      injection hh with _ h2 _
      exact hne h2.symm)
theorem Bk.kept {W W' : World} {g : Nat} {t : TypeId} {cs : Array Value} {row : Option Nat} (h : Bk W g t cs) (hg : W.grownBy W' row) (hr : ∀ r, row = some r → ∃ o : Obj, W.heap[r]? = some o ∧ o.isCells = false) : Bk W' g t cs :=
  (hg.block g h.lt (fun e => by obtain ⟨o, ho, hc⟩ := hr g e.symm; unfold Bk at h; rw [h] at ho; cases ho; simp [Obj.isCells] at hc)).trans h
theorem grown_of_below {W W' : World} (h : Below W.heap.size W W') : W.grownBy W' none := ⟨h.os, h.tape, h.output, h.size, fun k hk _ => h.block k hk⟩
theorem keeps_of_below {W W' : World} (h : Below W.heap.size W W') : KeepsOthers W W' := KeepsOthers.of_grownBy (grown_of_below h) (fun j o e => by cases e)

theorem add_zero_off (g k : Nat) : (⟨g, 0, none⟩ : Addr).add k = ⟨g, k, none⟩ := by unfold Addr.add; split <;> simp_all
theorem below_of_grown {W W' : World} (h : W.grownBy W' none) : Below W.heap.size W W' := (Below.refl _ W).grown h (Nat.le_refl _) (fun k e => by cases e)
/-- A row that fills its block. -/
theorem own_full {w : World} {base g n : Nat} {e : TypeId} {xs : List Value} (h : w.ownsRow base e 1 (.slice (some ⟨g, 0, none⟩) n n) n xs) : Bk w g e xs.toArray := by
  rcases h.2 with ⟨h1, _⟩ | ⟨g', cap, cur, h1, _, hg, hn, hm, hs, ht⟩
  · cases h1
  · simp only [Value.slice.injEq, Option.some.injEq, Addr.mk.injEq, and_true, true_and] at h1
    obtain ⟨rfl, rfl⟩ := h1
    have hx : cur = xs.toArray := by
      rw [← ht, Nat.mul_one, List.take_of_length_le (by simp; omega)]
    unfold Bk
    rw [hg, hx]
/-- A row of numbers. -/
def rowF (n : Nat) (f : Nat → Int) : Array Value := ((List.range n).map fun k => Value.int .i64 (f k)).toArray
theorem rowF_size (n : Nat) (f : Nat → Int) : (rowF n f).size = n := by simp [rowF]
theorem Bk.rowF_at {w : World} {g : Nat} {t : TypeId} {n : Nat} {f : Nat → Int} (h : Bk w g t (rowF n f)) {k : Nat} (hk : k < n) : w.cell? ⟨g, k, none⟩ = some (.int .i64 (f k)) := by
  rw [h.cell k]; simp [rowF, hk]
theorem rowF_upd (n : Nat) (f : Nat → Int) (k : Nat) (v : Int) : (rowF n f).setIfInBounds k (.int .i64 v) = rowF n fun i => if i = k then v else f i := by
  apply Array.ext
  · simp [rowF]
  · intro i h1 h2
    simp only [rowF, List.getElem_toArray, List.getElem_map, List.getElem_range]
    by_cases hik : k = i
    · subst hik; simp
    · have : i ≠ k := fun e => hik e.symm
      simp [hik, this]
theorem Bk.rowF_set {w : World} {g : Nat} {t : TypeId} {n : Nat} {f : Nat → Int} (h : Bk w g t (rowF n f)) (k : Nat) (v : Int) : Bk (w.setCell ⟨g, k, none⟩ (.int .i64 v)) g t (rowF n fun i => if i = k then v else f i) := by
  have := h.set_ k (.int .i64 v)
  rwa [rowF_upd] at this
theorem rowF_congr {n : Nat} {f g : Nat → Int} (h : ∀ i, i < n → f i = g i) : rowF n f = rowF n g := by
  unfold rowF
  congr 1
  exact List.map_congr_left (fun i hi => by rw [h i (List.mem_range.1 hi)])
theorem rowF_lies {w : World} {g : Nat} {t : TypeId} {n : Nat} {f : Nat → Int} (h : Bk w g t (rowF n f)) : Lies w w.heap.size (some ⟨g, 0, none⟩) (ic ((List.range n).map f)) := fun j u hu => by
  refine ⟨_, rfl, h.lt, h.adds j u ?_⟩
  simpa [rowF, ic] using hu
theorem made_row (n : Nat) : (madeCells (Value.int .i64 0).cells (n * 1)).toList = ((List.range n).map fun _ => Value.int .i64 0) := by
  apply List.ext_getElem
  · simp [madeCells]
  · intro i h1 h2
    simp [madeCells, Value.cells, Nat.mod_one]
theorem made_bk {w : World} {base g n : Nat} {t : TypeId} (h : w.ownsRow base t 1 (.slice (some ⟨g, 0, none⟩) n n) n (madeCells (Value.int .i64 0).cells (n * 1)).toList) : Bk w g t (rowF n fun _ => 0) := by
  have := own_full h
  rw [made_row] at this
  exact this
end Go.Proofs.Ytaghpemdcmjchaa
