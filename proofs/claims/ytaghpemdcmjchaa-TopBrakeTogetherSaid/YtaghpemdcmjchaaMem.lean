
/-
  How the data of lines lie in memory: cells from an address, rows of joints, beams and switches, a line as a value.
-/
import Derived.Test.YtaghpemdcmjchaaPlain
import Derived.WalkKit
import Derived.WalkSpells
import Derived.WalkSmall
import Derived.Deep.Draws
import Derived.Laws.OwnMore
namespace Go.Proofs.Ytaghpemdcmjchaa
open Go.RowKit

theorem add_blk (a : Addr) (n : Nat) : (a.add n).block = a.block := by unfold Addr.add; split <;> rfl
theorem add_twice (a : Addr) (i j : Nat) : (a.add i).add j = a.add (i + j) := by
  unfold Addr.add
  by_cases hi : i = 0 <;> by_cases hj : j = 0 <;> simp [hi, hj, Nat.add_assoc]

theorem add_off (a : Addr) (n m : Nat) (hm : 0 < m) : a.add (n + m) = ⟨(a.add n).block, (a.add n).off + m, none⟩ := by
  unfold Addr.add
  by_cases hn : n = 0
  · simp [hn]; omega
  · rw [if_neg (by omega), if_neg hn]; simp; omega

/-- From the address A on the cells hold vs; they lie below block B. -/
def Lies (w : World) (B : Nat) (A : Option Addr) (vs : List Value) : Prop := ∀ j u, vs[j]? = some u → ∃ a, A = some a ∧ a.block < B ∧ w.cell? (a.add j) = some u

section
variable {w w' : World} {B B' : Nat} {A : Option Addr} {vs : List Value}
theorem Lies.nil : Lies w B A [] := fun j u h => by simp at h
theorem Lies.keep (h : Lies w B A vs) (hk : ∀ p : Addr, p.block < B → w'.cell? p = w.cell? p) : Lies w' B A vs := fun j u hu => by
  obtain ⟨a, e, hb, hc⟩ := h j u hu
  exact ⟨a, e, hb, (hk _ (by rw [add_blk]; exact hb)).trans hc⟩
theorem Lies.more (h : Lies w B A vs) (hB : B ≤ B') : Lies w B' A vs := fun j u hu => by
  obtain ⟨a, e, hb, hc⟩ := h j u hu
  exact ⟨a, e, by omega, hc⟩
theorem Lies.below (h : Lies w B A vs) (hb : Below B w w') : Lies w' B A vs := h.keep fun _ hp => hb.cell hp
theorem Lies.at_ {k : Nat} {u : Value} (h : Lies w B A vs) (hu : vs[k]? = some u) : ∃ a, A = some a ∧ a.block < B ∧ w.cell? (a.add k) = some u := h k u hu
theorem Lies.of_own {base n size : Nat} {e : TypeId} {c : Nat} (h : w.ownsRow base e size (.slice A n c) n vs) : Lies w w.heap.size A vs := by
  intro j u hu
  rcases h.2 with ⟨e1, hn⟩ | ⟨g, cap, cur, e1, _, hh, _⟩
  · have hl := h.1
    rw [hn, Nat.zero_mul] at hl
    rw [List.eq_nil_of_length_eq_zero hl] at hu
    simp at hu
  · injection e1 with e2 e3 e4
    subst e2
    exact ⟨_, rfl, (Array.getElem?_eq_some_iff.1 hh).1, h.cells (g := g) rfl j u hu⟩
end

theorem flat_at {α : Type} (f : α → List Value) (n : Nat) (hf : ∀ a, (f a).length = n) : ∀ (l : List α) (i k : Nat), k < n → (l.flatMap f)[i * n + k]? = (l[i]?).bind fun a => (f a)[k]?
  | [], i, k, _ => by simp
  | a :: l, 0, k, hk => by
    simp only [List.flatMap_cons, Nat.zero_mul, Nat.zero_add, List.getElem?_cons_zero, Option.bind_some]
    rw [List.getElem?_append_left (by rw [hf]; exact hk)]
  | a :: l, i + 1, k, hk => by
    simp only [List.flatMap_cons, List.getElem?_cons_succ]
    rw [List.getElem?_append_right (by rw [hf, Nat.succ_mul]; omega), hf, show (i + 1) * n + k - n = i * n + k from by rw [Nat.succ_mul]; omega]
    exact flat_at f n hf l i k hk

def jc (j : Lj) : List Value := [.int .i64 j.x, .int .i64 j.u, .int .i64 j.lo, .int .i64 j.hi]
def bc (b : Lb) : List Value := [.int .i64 b.len, .int .i64 b.cant]
/-- A slice's head: where it begins, and its capacity. -/
structure Hd where
  A : Option Addr
  c : Nat
def sc (p : Ls × Hd) : List Value := [.string p.1.name, .int .i64 p.1.first, .slice p.2.A p.1.across.length p.2.c]
def ic (l : List Int) : List Value := l.map (Value.int .i64)

theorem ic_at (l : List Int) (k : Nat) : (ic l)[k]? = l[k]?.map (Value.int .i64) := by simp [ic]

section
variable {w w' : World} {B B' : Nat} {A : Option Addr}
theorem Lies.joint {js : List Lj} {i : Nat} {j : Lj} (h : Lies w B A (js.flatMap jc)) (hj : js[i]? = some j) :
    ∃ a, A = some a ∧ a.block < B ∧ w.cell? (a.add (i * 4)) = some (.int .i64 j.x) ∧ w.cell? ⟨(a.add (i * 4)).block, (a.add (i * 4)).off + 1, none⟩ = some (.int .i64 j.u) ∧
      w.cell? ⟨(a.add (i * 4)).block, (a.add (i * 4)).off + 2, none⟩ = some (.int .i64 j.lo) ∧ w.cell? ⟨(a.add (i * 4)).block, (a.add (i * 4)).off + 3, none⟩ = some (.int .i64 j.hi) := by
  have f := fun k (hk : k < 4) => flat_at jc 4 (fun _ => rfl) js i k hk
  simp only [hj, Option.bind_some] at f
  obtain ⟨a, e, hb, h0⟩ := h _ _ (f 0 (by omega))
  obtain ⟨a1, e1, _, h1⟩ := h _ _ (f 1 (by omega))
  obtain ⟨a2, e2, _, h2⟩ := h _ _ (f 2 (by omega))
  obtain ⟨a3, e3, _, h3⟩ := h _ _ (f 3 (by omega))
  obtain rfl : a = a1 := by rw [e] at e1; injection e1
  obtain rfl : a = a2 := by rw [e] at e2; injection e2
  obtain rfl : a = a3 := by rw [e] at e3; injection e3
  rw [add_off _ _ _ (by omega)] at h1 h2 h3
  exact ⟨a, e, hb, h0, h1, h2, h3⟩
theorem Lies.beam {bs : List Lb} {i : Nat} {b : Lb} (h : Lies w B A (bs.flatMap bc)) (hj : bs[i]? = some b) :
    ∃ a, A = some a ∧ a.block < B ∧ w.cell? (a.add (i * 2)) = some (.int .i64 b.len) ∧ w.cell? ⟨(a.add (i * 2)).block, (a.add (i * 2)).off + 1, none⟩ = some (.int .i64 b.cant) := by
  have f := fun k (hk : k < 2) => flat_at bc 2 (fun _ => rfl) bs i k hk
  simp only [hj, Option.bind_some] at f
  obtain ⟨a, e, hb, h0⟩ := h _ _ (f 0 (by omega))
  obtain ⟨a1, e1, _, h1⟩ := h _ _ (f 1 (by omega))
  obtain rfl : a = a1 := by rw [e] at e1; injection e1
  rw [add_off _ _ _ (by omega)] at h1
  exact ⟨a, e, hb, h0, h1⟩
theorem Lies.switch {ps : List (Ls × Hd)} {i : Nat} {p : Ls × Hd} (h : Lies w B A (ps.flatMap sc)) (hj : ps[i]? = some p) :
    ∃ a, A = some a ∧ a.block < B ∧ w.cell? (a.add (i * 3)) = some (.string p.1.name) ∧ w.cell? ⟨(a.add (i * 3)).block, (a.add (i * 3)).off + 1, none⟩ = some (.int .i64 p.1.first) ∧
      w.cell? ⟨(a.add (i * 3)).block, (a.add (i * 3)).off + 2, none⟩ = some (.slice p.2.A p.1.across.length p.2.c) := by
  have f := fun k (hk : k < 3) => flat_at sc 3 (fun _ => rfl) ps i k hk
  simp only [hj, Option.bind_some] at f
  obtain ⟨a, e, hb, h0⟩ := h _ _ (f 0 (by omega))
  obtain ⟨a1, e1, _, h1⟩ := h _ _ (f 1 (by omega))
  obtain ⟨a2, e2, _, h2⟩ := h _ _ (f 2 (by omega))
  obtain rfl : a = a1 := by rw [e] at e1; injection e1
  obtain rfl : a = a2 := by rw [e] at e2; injection e2
  rw [add_off _ _ _ (by omega)] at h1 h2
  exact ⟨a, e, hb, h0, h1, h2⟩
theorem Lies.num {l : List Int} {i : Nat} {x : Int} (h : Lies w B A (ic l)) (hj : l[i]? = some x) :
    ∃ a, A = some a ∧ a.block < B ∧ w.cell? (a.add i) = some (.int .i64 x) := h _ _ (by rw [ic_at, hj]; rfl)
end

/-- Block g holds just these cells, none frozen. -/
def Bk (w : World) (g : Nat) (t : TypeId) (cs : Array Value) : Prop := w.heap[g]? = some (.cells cs t (0, 0))
section
variable {w w' : World} {g : Nat} {t : TypeId} {cs : Array Value}
theorem Bk.lt (h : Bk w g t cs) : g < w.heap.size := (Array.getElem?_eq_some_iff.1 h).1
theorem Bk.cell (h : Bk w g t cs) (i : Nat) : w.cell? ⟨g, i, none⟩ = cs[i]? := cell_of_row w g i cs t (0, 0) h
theorem Bk.frozen (h : Bk w g t cs) (i : Nat) : w.frozen? ⟨g, i, none⟩ = false := by unfold Bk at h; simp [World.frozen?, h]
theorem Bk.new (w : World) (t : TypeId) (cs : Array Value) : Bk (w.alloc (.cells cs t)) w.heap.size t cs := heap_alloc_new w _
theorem Bk.new1 (w : World) (o : Obj) (t : TypeId) (cs : Array Value) : Bk ((w.alloc o).alloc (.cells cs t)) (w.heap.size + 1) t cs := by
  have := Bk.new (w.alloc o) t cs
  rwa [World.size_alloc] at this
theorem Bk.alloc (h : Bk w g t cs) (o : Obj) : Bk (w.alloc o) g t cs := (Below.heap_alloc w o g h.lt).trans h
theorem Bk.below {B : Nat} (h : Bk w g t cs) (hb : Below B w w') (hB : g < B) : Bk w' g t cs := (hb.block g hB).trans h
theorem Bk.call (h : Bk w g t cs) (hb : Below w.heap.size w w') : Bk w' g t cs := h.below hb h.lt
theorem Bk.far (h : Bk w g t cs) {p : Addr} (hp : g ≠ p.block) (u : Value) : Bk (w.setCell p u) g t cs := (Below.heap_setCell w p u g hp).trans h
theorem Bk.one {a : Value} (h : Bk w g t #[a]) : w.cell? ⟨g, 0, none⟩ = some a ∧ w.frozen? ⟨g, 0, none⟩ = false := ⟨h.cell 0, h.frozen 0⟩
theorem Bk.two {a b : Value} (h : Bk w g t #[a, b]) : w.cell? ⟨g, 0, none⟩ = some a ∧ w.cell? ⟨g, 1, none⟩ = some b ∧ w.frozen? ⟨g, 0, none⟩ = false ∧ w.frozen? ⟨g, 1, none⟩ = false := ⟨h.cell 0, h.cell 1, h.frozen 0, h.frozen 1⟩
theorem Bk.three {a b c : Value} (h : Bk w g t #[a, b, c]) : w.cell? ⟨g, 0, none⟩ = some a ∧ w.cell? ⟨g, 1, none⟩ = some b ∧ w.cell? ⟨g, 2, none⟩ = some c := ⟨h.cell 0, h.cell 1, h.cell 2⟩
theorem Bk.four {a b c d : Value} (h : Bk w g t #[a, b, c, d]) : w.cell? ⟨g, 0, none⟩ = some a ∧ w.cell? ⟨g, 1, none⟩ = some b ∧ w.cell? ⟨g, 2, none⟩ = some c ∧ w.cell? ⟨g, 3, none⟩ = some d := ⟨h.cell 0, h.cell 1, h.cell 2, h.cell 3⟩
end

/-- Lists of numbers that an int holds. -/
def Lj.ok (j : Lj) : Prop := I64 j.x ∧ I64 j.u ∧ I64 j.lo ∧ I64 j.hi
def Lb.ok (b : Lb) : Prop := I64 b.len ∧ I64 b.cant
def Ls.ok (s : Ls) : Prop := I64 s.first ∧ ∀ x ∈ s.across, I64 x
structure Ll.ok (L : Ll) : Prop where
  name : L.name.size ≤ 1000
  js : ∀ j ∈ L.js, j.ok
  bs : ∀ b ∈ L.bs, b.ok
  ss : ∀ s ∈ L.ss, s.ok
  nj : L.js.length ≤ 1000
  nb : L.bs.length ≤ 1000
  ns : L.ss.length ≤ 1000
  na : ∀ s ∈ L.ss, s.across.length ≤ 1000 ∧ s.name.size ≤ 1000
theorem small_max {n : Nat} (h : n ≤ 1000) : n ≤ maxLen := by unfold maxLen; omega

/-- The heads of a line's slices: of joints, beams and switches, and of each switch. -/
structure Hds where
  j : Hd
  b : Hd
  s : Hd
  each : List Hd

def Ll.val (L : Ll) (H : Hds) : Value := .agg #[.string L.name, .slice H.j.A L.js.length H.j.c, .slice H.b.A L.bs.length H.b.c, .slice H.s.A L.ss.length H.s.c]

/-- The line L lies in the world w, below block B, with these heads. -/
structure LnAt (w : World) (B : Nat) (L : Ll) (H : Hds) : Prop where
  j : Lies w B H.j.A (L.js.flatMap jc)
  b : Lies w B H.b.A (L.bs.flatMap bc)
  n : H.each.length = L.ss.length
  s : Lies w B H.s.A ((L.ss.zip H.each).flatMap sc)
  a : ∀ (i : Nat) (s : Ls) (h : Hd), L.ss[i]? = some s → H.each[i]? = some h → Lies w B h.A (ic s.across)

section
variable {w w' : World} {B B' : Nat} {L : Ll} {H : Hds}
theorem LnAt.keep (h : LnAt w B L H) (hk : ∀ p : Addr, p.block < B → w'.cell? p = w.cell? p) : LnAt w' B L H :=
  ⟨h.j.keep hk, h.b.keep hk, h.n, h.s.keep hk, fun i s x h1 h2 => (h.a i s x h1 h2).keep hk⟩
theorem LnAt.more (h : LnAt w B L H) (hB : B ≤ B') : LnAt w B' L H := ⟨h.j.more hB, h.b.more hB, h.n, h.s.more hB, fun i s x h1 h2 => (h.a i s x h1 h2).more hB⟩
theorem LnAt.below (h : LnAt w B L H) (hb : Below B w w') : LnAt w' B L H := h.keep fun _ hp => hb.cell hp
end

end Go.Proofs.Ytaghpemdcmjchaa
