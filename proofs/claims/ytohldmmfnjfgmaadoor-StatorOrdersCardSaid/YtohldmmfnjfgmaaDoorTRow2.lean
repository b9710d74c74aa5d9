
/-
  More arguments opened: phases, lists of vectors, tracks, trains, feeds.
-/
import Derived.Test.YtohldmmfnjfgmaaDoorTRow
import Derived.Test.YtohldmmfnjfgmaaDoorOwn
import Derived.Laws.IdiomArrays
namespace Go.Proofs.YtohldmmfnjfgmaaDoor
open Go.ChangeShapes Go.WideShapes Go.ChangeAt Go.RowKit Go.Joins Go.Deep

theorem Lies.of_elems {α : Type} {w : World} {a : Addr} {l : List α} (f : α → List Value) (n : Nat) (hn : 0 < n) (hf : ∀ x, (f x).length = n)
    (h : ∀ (i : Nat) (hi : i < l.length) (k : Nat) (u : Value), (f l[i])[k]? = some u → w.cell? (a.add (i * n + k)) = some u) : Lies w w.heap.size (some a) (l.flatMap f) := by
  intro j u hu
  have hk : j % n < n := Nat.mod_lt _ hn
  have hj : j / n * n + j % n = j := by rw [Nat.mul_comm]; exact Nat.div_add_mod j n
  have e := flat_at f n hf l (j / n) (j % n) hk
  rw [hj, hu] at e
  cases hi : l[j / n]? with
  | none => rw [hi] at e; simp at e
  | some x =>
    rw [hi] at e
    obtain ⟨hlt, hx⟩ := List.getElem?_eq_some_iff.1 hi
    simp only [Option.bind_some] at e
    rw [← hx] at e
    have hc := h _ hlt _ _ e.symm
    rw [hj] at hc
    exact ⟨a, rfl, by have := cell_lt hc; rwa [add_blk] at this, hc⟩


theorem cells_p3 : Tryd.prog.cellsOf 73 = 3 := by kernel_rfl
theorem cells_ints : Tryd.prog.cellsOf 54 = 1 := by kernel_rfl
theorem cells_track : Tryd.prog.cellsOf 92 = 1 := by kernel_rfl
theorem cells_feed : Tryd.prog.cellsOf 98 = 4 := by kernel_rfl
theorem cells_thirds : Tryd.prog.cellsOf 43 = 1 := by kernel_rfl
instance : Inhabited T3 := ⟨⟨0, 0⟩⟩
theorem flat_single : ∀ l : List Int, l.flatMap (fun x : Int => [Value.int .i64 x]) = ic l
  | [] => rfl
  | x :: l => by rw [List.flatMap_cons, flat_single l]; rfl

section
variable {H : Type} {enc : TypeId × Value → H} {W : World} {base : Nat} {held : Bool}
/-- A slice whose elements each are so many cells of a known make. -/
theorem open_made {α : Type} [Inhabited α] (f : α → List Value) (ok : α → Prop) (size : Nat) (hs : 0 < size) (hf : ∀ x, (f x).length = size) {t e : TypeId} (ht : Tryd.prog.underlying t = some (.slice e)) (hc : Tryd.prog.cellsOf e = size)
    (hel : ∀ {fuel : Nat} {cs : List Value} {x : DataW H × List MemPlace}, DataW.trod enc Tryd.prog W base (fun _ => true) held fuel e cs = some x → ∃ y : α, cs = f y ∧ ok y)
    {fuel : Nat} {v : Value} {x : DataW H × List MemPlace} (h : DataW.trod enc Tryd.prog W base (fun _ => true) held fuel t [v] = some x) :
    ∃ (l : List α) (g : Hd), v = .slice g.A l.length g.c ∧ HdOk g ∧ l.length ≤ maxLen ∧ (∀ y ∈ l, ok y) ∧ Lies W W.heap.size g.A (l.flatMap f) := by
  rcases open_slice ht h with ⟨h0, _⟩ | ⟨a, len, cap, m, n, D, Pl, hcs, hb, hl, hm, hmm, hx, hi⟩
  · injection h0 with h0 _
    exact ⟨[], ⟨none, 0⟩, h0, fun _ => rfl, by simp, fun y hy => by simp at hy, Lies.nil⟩
  · injection hcs with hcs _
    have hlm : len ≤ m := by rw [hmm]; simpa using hl
    have h1 : ∀ i, i < len → ∃ y : α, ok y ∧ ∀ (k : Nat) (u : Value), (f y)[k]? = some u → W.cell? (a.add (i * size + k)) = some u := fun i hi' => by
      obtain ⟨cs', hc', ht'⟩ := hi i (by omega)
      obtain ⟨y, rfl, hy⟩ := hel ht'
      rw [hc] at hc'
      obtain ⟨_, hlen, hat⟩ := World.cells?_some hc'
      refine ⟨y, hy, fun k u hu => ?_⟩
      have hk : k < size := by have := (List.getElem?_eq_some_iff.1 hu).1; rwa [hf] at this
      have := hat k hk
      rw [hu, add_twice] at this
      exact this
    obtain ⟨F, hF⟩ := choose_lt h1
    refine ⟨(List.range len).map F, ⟨some a, cap⟩, by simpa using hcs, (fun h => by cases h), by simp; omega, fun y hy => ?_, ?_⟩
    · obtain ⟨i, hi', rfl⟩ := List.mem_map.1 hy
      exact (hF i (by simpa using hi')).1
    · refine Lies.of_elems f size hs hf fun i hi' k u hu => ?_
      have hi2 : i < len := by simpa using hi'
      simp only [List.getElem_map, List.getElem_range] at hu
      exact (hF i hi2).2 k u hu


set_option maxRecDepth 100000 in
theorem open_its {fuel : Nat} {v : Value} {x : DataW H × List MemPlace} (h : DataW.trod enc Tryd.prog W base (fun _ => true) held fuel 54 [v] = some x) :
    ∃ (l : List Int) (g : Hd), v = .slice g.A l.length g.c ∧ HdOk g ∧ l.length ≤ maxLen ∧ (∀ y ∈ l, I64 y) ∧ Lies W W.heap.size g.A (ic l) := by
  obtain ⟨l, g, rfl, hg, hl, ho, hL⟩ := open_made (fun x : Int => [.int .i64 x]) I64 1 (by decide) (fun _ => rfl) Tryd.underlying54 cells_int (fun {fuel cs x} h => by
    obtain ⟨n, hc, _, hw⟩ := DataW.trod_int Tryd.underlying3 h
    exact ⟨n, hc, i64_of_wf hw⟩) h
  rw [flat_single] at hL
  exact ⟨l, g, rfl, hg, hl, ho, hL⟩
set_option maxRecDepth 100000 in
theorem open_ths {fuel : Nat} {v : Value} {x : DataW H × List MemPlace} (h : DataW.trod enc Tryd.prog W base (fun _ => true) held fuel 43 [v] = some x) :
    ∃ (l : List T3) (g : Hd), v = .slice g.A l.length g.c ∧ HdOk g ∧ l.length ≤ maxLen ∧ (∀ y ∈ l, I64 y.a ∧ I64 y.b) ∧ Lies W W.heap.size g.A (l.flatMap tc) :=
  open_made tc (fun y => I64 y.a ∧ I64 y.b) 2 (by decide) (fun _ => rfl) Tryd.underlying43 cells_third (fun {fuel cs x} h => by
    obtain ⟨v, hc, _, ha, hb⟩ := trod_third h
    exact ⟨v, hc, ha, hb⟩) h
set_option maxRecDepth 100000 in
theorem open_p3 {r : Reach} {b0 : Nat} {v : Value} {d : DataW H} {p : List MemPlace} (hv : Value.okWide Tryd.prog W r b0 73 v) (h : DataW.Trod enc Tryd.prog W base (fun _ => true) held 73 v d p) :
    ∃ x y z : Int, v = .agg #[.int .i64 x, .int .i64 y, .int .i64 z] := by
  have hs : ∃ cs, v = .agg cs ∧ cs.size = 3 := by
    simp only [Value.okWide, Tryd.underlying73] at hv
    obtain ⟨cs, h1, h2, _⟩ := hv
    exact ⟨cs, h1, by rw [h2, cells_p3]⟩
  obtain ⟨cs, rfl, hsz⟩ := hs
  obtain ⟨fuel, hf⟩ := h
  obtain ⟨l⟩ := cs
  match l, hsz with
  | [c0, c1, c2], _ =>
    obtain ⟨y0, y1, y2, n, _, h0, h1, h2⟩ := trod_array3 Tryd.underlying73 cells_int hf
    obtain ⟨a, rfl, _, _⟩ := trod_i h0
    obtain ⟨b, rfl, _, _⟩ := trod_i h1
    obtain ⟨c, rfl, _, _⟩ := trod_i h2
    exact ⟨a, b, c, rfl⟩
set_option maxRecDepth 100000 in
theorem open_thirds {r : Reach} {b0 : Nat} {v : Value} {d : DataW H} {p : List MemPlace} (hv : Value.okWide Tryd.prog W r b0 43 v) (h : DataW.Trod enc Tryd.prog W base (fun _ => true) held 43 v d p) :
    ∃ (l : List T3) (g : Hd), v = .slice g.A l.length g.c ∧ HdOk g ∧ l.length ≤ maxLen ∧ (∀ y ∈ l, I64 y.a ∧ I64 y.b) ∧ Lies W W.heap.size g.A (l.flatMap tc) := by
  obtain ⟨a, n, c, rfl⟩ := okWide_slice Tryd.underlying43 hv
  obtain ⟨fuel, hf⟩ := h
  exact open_ths hf
set_option maxRecDepth 100000 in
theorem open_train {r : Reach} {b0 : Nat} {v : Value} {d : DataW H} {p : List MemPlace} (hv : Value.okWide Tryd.prog W r b0 96 v) (h : DataW.Trod enc Tryd.prog W base (fun _ => true) held 96 v d p) :
    ∃ p len : Int, v = .agg #[.int .i64 p, .int .i64 len] ∧ I64 p ∧ I64 len := by
  obtain ⟨v0, v1, y0, y1, n, rfl, _, _, h0, h1⟩ := open_agg2 Tryd.underlying96 (by kernel_rfl) (by kernel_rfl) hv h
  obtain ⟨a, rfl, _, ha⟩ := trod_i h0
  obtain ⟨b, rfl, _, hb⟩ := trod_i h1
  exact ⟨a, b, rfl, ha, hb⟩
set_option maxRecDepth 100000 in
theorem open_track {r : Reach} {b0 : Nat} {v : Value} {d : DataW H} {p : List MemPlace} (hv : Value.okWide Tryd.prog W r b0 92 v) (h : DataW.Trod enc Tryd.prog W base (fun _ => true) held 92 v d p) :
    ∃ (l : List Int) (g : Hd), v = .agg #[.slice g.A l.length g.c] ∧ HdOk g ∧ l.length ≤ maxLen ∧ (∀ y ∈ l, I64 y) ∧ Lies W W.heap.size g.A (ic l) := by
  obtain ⟨cs, rfl, hsz⟩ := okWide_struct Tryd.underlying92 hv
  rw [cells_track] at hsz
  obtain ⟨fuel, hf⟩ := h
  obtain ⟨l⟩ := cs
  match l, hsz with
  | [c0], _ =>
    obtain ⟨xs, n, _, _, _, hlen, hfl⟩ := DataW.trod_struct Tryd.underlying92 hf
    match xs, hlen with
    | [y0], _ =>
      have h0 : DataW.trod enc Tryd.prog W base (fun _ => true) held n 54 (([c0].drop 0).take (Tryd.prog.cellsOf 54)) = some y0 := hfl 0 _ rfl
      rw [cells_ints] at h0
      obtain ⟨l, g, rfl, hg, hl, ho, hL⟩ := open_its h0
      exact ⟨l, g, rfl, hg, hl, ho, hL⟩
set_option maxRecDepth 100000 in
theorem open_feed {r : Reach} {b0 : Nat} {v : Value} {d : DataW H} {p : List MemPlace} (hv : Value.okWide Tryd.prog W r b0 98 v) (h : DataW.Trod enc Tryd.prog W base (fun _ => true) held 98 v d p) :
    ∃ (l : List T3) (g : Hd) (f : T3) (m : Int), v = .agg #[.slice g.A l.length g.c, .int .i64 f.a, .int .i64 f.b, .int .i64 m] ∧ HdOk g ∧ l.length ≤ maxLen ∧ (∀ y ∈ l, I64 y.a ∧ I64 y.b) ∧ I64 m ∧ Lies W W.heap.size g.A (l.flatMap tc) := by
  obtain ⟨cs, rfl, hsz⟩ := okWide_struct Tryd.underlying98 hv
  rw [cells_feed] at hsz
  obtain ⟨fuel, hf⟩ := h
  obtain ⟨l⟩ := cs
  match l, hsz with
  | [c0, c1, c2, c3], _ =>
    obtain ⟨xs, n, _, _, _, hlen, hfl⟩ := DataW.trod_struct Tryd.underlying98 hf
    match xs, hlen with
    | [y0, y1, y2], _ =>
      have h0 : DataW.trod enc Tryd.prog W base (fun _ => true) held n 43 (([c0, c1, c2, c3].drop 0).take (Tryd.prog.cellsOf 43)) = some y0 := hfl 0 _ rfl
      rw [cells_thirds] at h0
      have h1 : DataW.trod enc Tryd.prog W base (fun _ => true) held n 24 (([c0, c1, c2, c3].drop 1).take (Tryd.prog.cellsOf 24)) = some y1 := hfl 1 _ rfl
      rw [cells_third] at h1
      have h2 : DataW.trod enc Tryd.prog W base (fun _ => true) held n 3 (([c0, c1, c2, c3].drop 3).take (Tryd.prog.cellsOf 3)) = some y2 := hfl 2 _ rfl
      rw [cells_int] at h2
      obtain ⟨l, g, rfl, hg, hl, ho, hL⟩ := open_ths h0
      obtain ⟨f, hc, _, _, _⟩ := trod_third h1
      obtain ⟨m, rfl, _, hm⟩ := trod_i h2
      simp only [List.drop_succ_cons, List.drop_zero, List.take_succ_cons, List.take_zero, tc, List.cons.injEq, and_true] at hc
      obtain ⟨rfl, rfl⟩ := hc
      exact ⟨l, g, f, m, rfl, hg, hl, ho, hm, hL⟩
end
end Go.Proofs.YtohldmmfnjfgmaaDoor
