
/-
  Small facts of worlds, boxes and cells that many walks take.
-/
import Derived.Test.YtaghpemdcmjchaaMem
namespace Go.Proofs.Ytaghpemdcmjchaa
open Go.RowKit

theorem wp_abs {P : Program} {Q : Exit → Act → World → Prop} {a : Act} {w : World} {c : Code} (h : ∀ w', w = w' → c.wp P Q a w') : c.wp P Q a w := h w rfl
theorem Below.step {w W w1 : World} (h : Below w.heap.size w W) (hb : Below W.heap.size W w1) : Below w.heap.size w w1 := h.trans (hb.mono h.size)
theorem Below.new {w W : World} (h : Below w.heap.size w W) (o : Obj) : Below w.heap.size w (W.alloc o) := h.alloc h.size o
theorem Lies.call {w w' : World} {A : Option Addr} {vs : List Value} (h : Lies w w.heap.size A vs) (hb : Below w.heap.size w w') : Lies w' w'.heap.size A vs := (h.below hb).more hb.size
theorem Lies.new {w : World} {A : Option Addr} {vs : List Value} (h : Lies w w.heap.size A vs) (o : Obj) : Lies (w.alloc o) (w.alloc o).heap.size A vs := h.call ((Below.refl _ w).alloc (Nat.le_refl _) o)
theorem cell_lt {w : World} {a : Addr} {v : Value} (h : w.cell? a = some v) : a.block < w.heap.size := by
  unfold World.cell? at h
  split at h
  · rename_i hb; exact (Array.getElem?_eq_some_iff.1 hb).1
  · cases h
section
variable {w w' : World} {g : Nat} {t : TypeId} {cs : Array Value}
theorem Bk.new2 (w : World) (o o' : Obj) (t : TypeId) (cs : Array Value) : Bk (((w.alloc o).alloc o').alloc (.cells cs t)) (w.heap.size + 1 + 1) t cs := by
  have := Bk.new ((w.alloc o).alloc o') t cs
  rwa [World.size_alloc, World.size_alloc] at this
theorem Bk.drew (h : Bk w g t cs) : Bk w.drew g t cs := h
theorem Bk.set_ (h : Bk w g t cs) (i : Nat) (u : Value) : Bk (w.setCell ⟨g, i, none⟩ u) g t (cs.setIfInBounds i u) := by
  unfold Bk at h ⊢
  simp [World.setCell, Array.getElem?_modify, h]
theorem Bk.new_eq {X Y : Array Value} (h : X = Y) : Bk (w.alloc (.cells X t)) w.heap.size t Y := h ▸ Bk.new w t X
end
/-- A call's world, and boxes that hold what is known: what a walk carries from call to call. -/
structure Fr (w W : World) (bs : List (Nat × TypeId × Array Value)) : Prop where
  bl : Below w.heap.size w W
  bk : ∀ b ∈ bs, Bk W b.1 b.2.1 b.2.2
section
variable {w W W1 : World} {bs : List (Nat × TypeId × Array Value)} {g : Nat} {t : TypeId} {cs : Array Value}
theorem Fr.nil (w : World) : Fr w w [] := ⟨Below.refl _ _, fun b hb => by simp at hb⟩
theorem Fr.call (h : Fr w W bs) (hb : Below W.heap.size W W1) : Fr w W1 bs := ⟨Below.step h.bl hb, fun b hm => (h.bk b hm).call hb⟩
theorem Fr.new (h : Fr w W bs) (o : Obj) : Fr w (W.alloc o) bs := h.call ((Below.refl _ W).alloc (Nat.le_refl _) o)
theorem Fr.drew (h : Fr w W bs) : Fr w W.drew bs := ⟨h.bl.drew, h.bk⟩
theorem Fr.box (h : Fr w W bs) (t : TypeId) (cs : Array Value) : Fr w (W.alloc (.cells cs t)) ((W.heap.size, t, cs) :: bs) :=
  ⟨(h.new _).bl, fun b hm => by
    rcases List.mem_cons.1 hm with rfl | hm
    · exact Bk.new W t cs
    · exact (h.new _).bk b hm⟩
theorem Fr.b1 (w : World) (t1 : TypeId) (c1 : Array Value) : Fr w (w.alloc (.cells c1 t1)) [(w.heap.size, t1, c1)] := (Fr.nil w).box t1 c1
theorem Fr.b2 (w : World) (t1 : TypeId) (c1 : Array Value) (t2 : TypeId) (c2 : Array Value) : Fr w ((w.alloc (.cells c1 t1)).alloc (.cells c2 t2)) [(w.heap.size + 1, t2, c2), (w.heap.size, t1, c1)] := by
  have := (Fr.b1 w t1 c1).box t2 c2
  rwa [World.size_alloc] at this
theorem Fr.b3 (w : World) (t1 : TypeId) (c1 : Array Value) (t2 : TypeId) (c2 : Array Value) (t3 : TypeId) (c3 : Array Value) : Fr w (((w.alloc (.cells c1 t1)).alloc (.cells c2 t2)).alloc (.cells c3 t3)) [(w.heap.size + 1 + 1, t3, c3), (w.heap.size + 1, t2, c2), (w.heap.size, t1, c1)] := by
  have := (Fr.b2 w t1 c1 t2 c2).box t3 c3
  rwa [World.size_alloc, World.size_alloc] at this
theorem Fr.b4 (w : World) (t1 : TypeId) (c1 : Array Value) (t2 : TypeId) (c2 : Array Value) (t3 : TypeId) (c3 : Array Value) (t4 : TypeId) (c4 : Array Value) : Fr w ((((w.alloc (.cells c1 t1)).alloc (.cells c2 t2)).alloc (.cells c3 t3)).alloc (.cells c4 t4)) [(w.heap.size + 1 + 1 + 1, t4, c4), (w.heap.size + 1 + 1, t3, c3), (w.heap.size + 1, t2, c2), (w.heap.size, t1, c1)] := by
  have := (Fr.b3 w t1 c1 t2 c2 t3 c3).box t4 c4
  rwa [World.size_alloc, World.size_alloc, World.size_alloc] at this
theorem Fr.more (h : Fr w W bs) (hn : Bk W g t cs) : Fr w W ((g, t, cs) :: bs) :=
  ⟨h.bl, fun b hm => by
    rcases List.mem_cons.1 hm with rfl | hm
    · exact hn
    · exact h.bk b hm⟩
theorem Fr.set (h : Fr w W bs) {p : Addr} (hp : w.heap.size ≤ p.block) (hn : ∀ b ∈ bs, b.1 ≠ p.block) (u : Value) : Fr w (W.setCell p u) bs :=
  ⟨h.bl.setCell hp u, fun b hm => (h.bk b hm).far (hn b hm) u⟩
theorem Fr.top (h : Fr w W ((g, t, cs) :: bs)) : Bk W g t cs := h.bk _ (List.mem_cons_self)
theorem Fr.tail {b : Nat × TypeId × Array Value} (h : Fr w W (b :: bs)) : Fr w W bs := ⟨h.bl, fun b hm => h.bk b (List.mem_cons_of_mem _ hm)⟩
theorem Fr.at1 {b0 : Nat × TypeId × Array Value} (h : Fr w W (b0 :: (g, t, cs) :: bs)) : Bk W g t cs := h.tail.top
theorem Fr.at2 {b0 b1 : Nat × TypeId × Array Value} (h : Fr w W (b0 :: b1 :: (g, t, cs) :: bs)) : Bk W g t cs := h.tail.tail.top
theorem Fr.at3 {b0 b1 b2 : Nat × TypeId × Array Value} (h : Fr w W (b0 :: b1 :: b2 :: (g, t, cs) :: bs)) : Bk W g t cs := h.tail.tail.tail.top
theorem Fr.get (h : Fr w W bs) (n : Nat) (e : bs[n]? = some (g, t, cs)) : Bk W g t cs := h.bk _ (List.mem_of_getElem? e)
theorem Fr.size (h : Fr w W bs) : w.heap.size ≤ W.heap.size := h.bl.size
/-- A box that has just been made, behind a call. -/
theorem Bk.after {o : Obj} (h : o = .cells cs t) (hb : Below (W.alloc o).heap.size (W.alloc o) W1) : Bk W1 W.heap.size t cs := (h ▸ Bk.new W t cs : Bk (W.alloc o) W.heap.size t cs).call hb
theorem Bk.after_drew {o : Obj} (h : o = .cells cs t) (hb : Below (W.alloc o).drew.heap.size (W.alloc o).drew W1) : Bk W1 W.heap.size t cs := (h ▸ Bk.new W t cs : Bk (W.alloc o) W.heap.size t cs).drew.call hb
end
theorem Bk.set2 {w : World} {g : Nat} {t : TypeId} {a b : Value} (h : Bk w g t #[a, b]) (x y : Value) : Bk ((w.setCell ⟨g, 0, none⟩ x).setCell ⟨g, 1, none⟩ y) g t #[x, y] := by
  have := (h.set_ 0 x).set_ 1 y
  simpa using this
/-- What a function that boxes its parameters leaves. -/
theorem box1 (w : World) (c1 : Array Value) (t1 : TypeId) : Below w.heap.size w (w.alloc (.cells c1 t1)) := (Below.refl w.heap.size w).alloc (Nat.le_refl _) _
theorem box2 (w : World) (c1 c2 : Array Value) (t1 t2 : TypeId) : Below w.heap.size w ((w.alloc (.cells c1 t1)).alloc (.cells c2 t2)) := (box1 w c1 t1).alloc (by simp) _
theorem box3 (w : World) (c1 c2 c3 : Array Value) (t1 t2 t3 : TypeId) : Below w.heap.size w (((w.alloc (.cells c1 t1)).alloc (.cells c2 t2)).alloc (.cells c3 t3)) := (box2 w c1 c2 t1 t2).alloc (by simp; omega) _
theorem ret_bool {a b : Bool} (h : a = b) : Ending.returned (.bool a) = .returned (.bool b) := by rw [h]
theorem ret_i64 {a b : Int} (h : a = b) : Ending.returned (.int .i64 a) = .returned (.int .i64 b) := by rw [h]
end Go.Proofs.Ytaghpemdcmjchaa
