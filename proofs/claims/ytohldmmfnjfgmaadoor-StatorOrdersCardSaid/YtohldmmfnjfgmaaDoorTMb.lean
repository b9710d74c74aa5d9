
/-
  What a round of Modulated carries: boxes and rows.
-/
import Derived.Test.YtohldmmfnjfgmaaDoorTWant
namespace Go.Proofs.YtohldmmfnjfgmaaDoor
open Go.RowKit

/-- A row that has grown leaves a box below it as it lay. -/
theorem Bk.grown {W W' : World} {g n0 : Nat} {t : TypeId} {cs : Array Value} {row : Option Nat} (h : Bk W g t cs) (hg : W.grownBy W' row) (hr : ∀ q, row = some q → n0 ≤ q) (hlt : g < n0) : Bk W' g t cs :=
  (hg.block g h.lt (fun e => by have := hr g e.symm; omega)).trans h
theorem own_cells {w : World} {base n size : Nat} {e : TypeId} {v : Value} {xs : List Value} (h : w.ownsRow base e size v n xs) : ∀ (j : Nat) (o : Obj), v.ownBlock = some j → w.heap[j]? = some o → o.isCells = true := by
  intro j o hj ho
  rcases h.2 with ⟨rfl, _⟩ | ⟨g, cap, cur, rfl, _, hg, _⟩
  · simp [Value.ownBlock] at hj
  · simp [Value.ownBlock] at hj
    subst hj
    rw [hg] at ho
    cases ho
    rfl

theorem new_adds (W : World) (t : TypeId) (cs : Array Value) (g : Nat) (hg : W.heap.size = g) : ∀ j u, cs.toList[j]? = some u → (W.alloc (.cells cs t)).cell? ((⟨g, 0, none⟩ : Addr).add j) = some u := by
  subst hg
  exact (Bk.new W t cs).adds
theorem below_tri {B : Nat} {w W W' : World} (h : Below B w W) (h' : Below B w W') (hs : W.heap.size ≤ W'.heap.size) : Below B W W' :=
  ⟨h'.os.trans h.os.symm, h'.tape.trans h.tape.symm, h'.output.trans h.output.symm, hs, fun k hk => (h'.block k hk).trans (h.block k hk).symm⟩

structure MB (w : World) (n0 : Nat) (M : Int) (W0 : World) (v1 v2 : Value) (n1 n2 : Nat) (c1 c2 : List Value) (lv : T3) (W : World) : Prop where
  p : Bk W (w.heap.size + 1 + 1 + 1) 56 #[v1, v2]
  o1 : W.ownsRow n0 3 1 v1 n1 c1
  o2 : W.ownsRow n0 24 2 v2 n2 c2
  l : Bk W (w.heap.size + 1 + 1 + 1 + 1) 24 #[.int .i64 lv.a, .int .i64 lv.b]
  s : Bk W w.heap.size 3 #[.int .i64 M]
  r1 : Bk W (w.heap.size + 1) 56 #[.slice none 0 0, .slice none 0 0]
  r2 : Bk W (w.heap.size + 1 + 1) 27 #[.int .i64 0]
  bl : Below w.heap.size w W
  z : n0 ≤ W.heap.size
  n : w.heap.size + 6 ≤ n0
  k : KeepsOthers W0 W
section
variable {w W0 W W' : World} {n0 n1 n2 : Nat} {M : Int} {v1 v2 : Value} {c1 c2 : List Value} {lv : T3}
theorem MB.rebase (h : MB w n0 M W0 v1 v2 n1 n2 c1 c2 lv W) : MB w n0 M W v1 v2 n1 n2 c1 c2 lv W := ⟨h.p, h.o1, h.o2, h.l, h.s, h.r1, h.r2, h.bl, h.z, h.n, KeepsOthers.refl _⟩
theorem MB.call (h : MB w n0 M W0 v1 v2 n1 n2 c1 c2 lv W) (hb : Below W.heap.size W W') : MB w n0 M W0 v1 v2 n1 n2 c1 c2 lv W' :=
  ⟨h.p.call hb, own_below h.o1 hb, own_below h.o2 hb, h.l.call hb, h.s.call hb, h.r1.call hb, h.r2.call hb, Below.step h.bl hb, by have := hb.size; have := h.z; omega, h.n, h.k.trans (keeps_of_below hb)⟩
theorem MB.new (h : MB w n0 M W0 v1 v2 n1 n2 c1 c2 lv W) (o : Obj) : MB w n0 M W0 v1 v2 n1 n2 c1 c2 lv (W.alloc o) := h.call ((Below.refl _ W).alloc (Nat.le_refl _) o)
theorem MB.setL (h : MB w n0 M W0 v1 v2 n1 n2 c1 c2 lv W) (u : T3) : MB w n0 M W0 v1 v2 n1 n2 c1 c2 u ((W.setCell ⟨w.heap.size + 1 + 1 + 1 + 1, 0, none⟩ (.int .i64 u.a)).setCell ⟨w.heap.size + 1 + 1 + 1 + 1, 1, none⟩ (.int .i64 u.b)) :=
  have hn := h.n
  ⟨(h.p.far (by simp) _).far (by simp) _, own_far (own_far h.o1 (by first | (simp; done) | (simp; omega))) (by first | (simp; done) | (simp; omega)), own_far (own_far h.o2 (by first | (simp; done) | (simp; omega))) (by first | (simp; done) | (simp; omega)), h.l.set2 _ _, (h.s.far (by first | (simp; done) | (simp; omega)) _).far (by first | (simp; done) | (simp; omega)) _, (h.r1.far (by first | (simp; done) | (simp; omega)) _).far (by first | (simp; done) | (simp; omega)) _, (h.r2.far (by first | (simp; done) | (simp; omega)) _).far (by first | (simp; done) | (simp; omega)) _,
    (h.bl.setCell (by first | (simp; done) | (simp; omega)) _).setCell (by first | (simp; done) | (simp; omega)) _, by have := h.z; simpa using this, h.n, h.k.trans ((KeepsOthers.setCell _ _ _).trans (KeepsOthers.setCell _ _ _))⟩
/-- The first row has grown, and its head is stored. -/
theorem MB.app1 (h : MB w n0 M W0 v1 v2 n1 n2 c1 c2 lv W) {o : Obj} {v1' : Value} {n1' : Nat} {c1' : List Value} (ho : W'.ownsRow n0 3 1 v1' n1' c1') (hg : (W.alloc o).grownBy W' v1.ownBlock) : MB w n0 M W0 v1' v2 n1' n2 c1' c2 lv (W'.setCell ⟨w.heap.size + 1 + 1 + 1, 0, none⟩ v1') := by
  have hn := h.n
  have g := h.new o
  have hr : ∀ q, v1.ownBlock = some q → n0 ≤ q := fun q e => (g.o1.lt q e).1
  exact ⟨by have := (g.p.grown hg hr (by omega)).set_ 0 v1'; simpa using this, own_far ho (by first | (simp; done) | (simp; omega)), own_far (own_grown g.o2 g.o1 (by decide) hg) (by first | (simp; done) | (simp; omega)), (g.l.grown hg hr (by omega)).far (by simp) _, (g.s.grown hg hr (by omega)).far (by first | (simp; done) | (simp; omega)) _, (g.r1.grown hg hr (by omega)).far (by first | (simp; done) | (simp; omega)) _, (g.r2.grown hg hr (by omega)).far (by simp) _,
    (g.bl.grown hg (by have := g.z; omega) (fun q e => by have := hr q e; omega)).setCell (by first | (simp; done) | (simp; omega)) _, by have h1 := g.z; have h2 := hg.size; simp only [World.size_alloc] at h1 h2; simp; omega, h.n, g.k.trans ((KeepsOthers.of_grownBy hg (own_cells g.o1)).trans (KeepsOthers.setCell _ _ _))⟩
/-- The second row has grown, and its head is stored. -/
theorem MB.app2 (h : MB w n0 M W0 v1 v2 n1 n2 c1 c2 lv W) {o : Obj} {v2' : Value} {n2' : Nat} {c2' : List Value} (ho : W'.ownsRow n0 24 2 v2' n2' c2') (hg : (W.alloc o).grownBy W' v2.ownBlock) : MB w n0 M W0 v1 v2' n1 n2' c1 c2' lv (W'.setCell ⟨w.heap.size + 1 + 1 + 1, 1, none⟩ v2') := by
  have hn := h.n
  have g := h.new o
  have hr : ∀ q, v2.ownBlock = some q → n0 ≤ q := fun q e => (g.o2.lt q e).1
  exact ⟨by have := (g.p.grown hg hr (by omega)).set_ 1 v2'; simpa using this, own_far (own_grown g.o1 g.o2 (by decide) hg) (by first | (simp; done) | (simp; omega)), own_far ho (by first | (simp; done) | (simp; omega)), (g.l.grown hg hr (by omega)).far (by simp) _, (g.s.grown hg hr (by omega)).far (by first | (simp; done) | (simp; omega)) _, (g.r1.grown hg hr (by omega)).far (by first | (simp; done) | (simp; omega)) _, (g.r2.grown hg hr (by omega)).far (by simp) _,
    (g.bl.grown hg (by have := g.z; omega) (fun q e => by have := hr q e; omega)).setCell (by first | (simp; done) | (simp; omega)) _, by have h1 := g.z; have h2 := hg.size; simp only [World.size_alloc] at h1 h2; simp; omega, h.n, g.k.trans ((KeepsOthers.of_grownBy hg (own_cells g.o2)).trans (KeepsOthers.setCell _ _ _))⟩
theorem MB.at1 (h : MB w n0 M W0 v1 v2 n1 n2 c1 c2 lv W) (o : Obj) (hg : (W.alloc o).grownBy W' v1.ownBlock) : Bk W' (w.heap.size + 1 + 1 + 1) 56 #[v1, v2] ∧ Bk W' (w.heap.size + 1 + 1 + 1 + 1) 24 #[.int .i64 lv.a, .int .i64 lv.b] := by
  have hn := h.n
  have g := h.new o
  have hr : ∀ q, v1.ownBlock = some q → n0 ≤ q := fun q e => (g.o1.lt q e).1
  exact ⟨g.p.grown hg hr (by omega), g.l.grown hg hr (by omega)⟩
theorem MB.at2 (h : MB w n0 M W0 v1 v2 n1 n2 c1 c2 lv W) (o : Obj) (hg : (W.alloc o).grownBy W' v2.ownBlock) : Bk W' (w.heap.size + 1 + 1 + 1) 56 #[v1, v2] := by
  have hn := h.n
  have g := h.new o
  have hr : ∀ q, v2.ownBlock = some q → n0 ≤ q := fun q e => (g.o2.lt q e).1
  exact g.p.grown hg hr (by omega)
/-- What a loop's own records turn leaves all as it is. -/
theorem MB.kept {row : Option Nat} (h : MB w n0 M W v1 v2 n1 n2 c1 c2 lv W) (hg : W.grownBy W' row) (hr : ∀ r, row = some r → n0 ≤ r ∧ ∃ o : Obj, W.heap[r]? = some o ∧ o.isCells = false) : MB w n0 M W' v1 v2 n1 n2 c1 c2 lv W' := by
  have hn := h.n
  have hr' := fun r e => (hr r e).2
  have own : ∀ {e : TypeId} {size n : Nat} {v : Value} {xs : List Value}, W.ownsRow n0 e size v n xs → W'.ownsRow n0 e size v n xs := fun {e size n v xs} ho => ho.kept hg (by
    cases hv : v.ownBlock with
    | none => exact .inl rfl
    | some q =>
      refine .inr fun e' => ?_
      obtain ⟨o, ho', hc⟩ := hr' q e'.symm
      rw [own_cells ho q o hv ho'] at hc
      cases hc)
  exact ⟨h.p.kept hg hr', own h.o1, own h.o2, h.l.kept hg hr', h.s.kept hg hr', h.r1.kept hg hr', h.r2.kept hg hr', h.bl.grown hg (by have := h.z; omega) (fun r e => by have := (hr r e).1; omega), by have := h.z; have := hg.size; omega, h.n, KeepsOthers.refl _⟩
end
end Go.Proofs.YtohldmmfnjfgmaaDoor
