/-
  An argument that is a line, opened: what it reads as, as a line in memory.
-/
import Derived.Test.YtmnlgeglmkdecaaFew
import Derived.ProofKit
import Derived.Lib.SmallJoins
import Derived.Deep.Slices
import Derived.Deep.Fields
import Derived.OpenShut
namespace Go.Proofs.Ytmnlgeglmkdecaa
open Go.RowKit Go.ChangeShapes Go.WideShapes Go.Joins Go.Deep

theorem cell_lt {w : World} {a : Addr} {v : Value} (h : w.cell? a = some v) : a.block < w.heap.size := by
  unfold World.cell? at h
  split at h
  · rename_i hb; exact (Array.getElem?_eq_some_iff.1 hb).1
  · cases h

theorem Lies.of_elems {α : Type} {w : World} {a : Addr} {l : List α} (f : α → List Value) (n : Nat) (hn : 0 < n) (hf : ∀ x, (f x).length = n)
    (h : ∀ (i : Nat) (hi : i < l.length) (k : Nat) (u : Value), (f l[i])[k]? = some u → w.cell? (a.add (i * n + k)) = some u) : Lies w w.heap.size (some a) (l.flatMap f) := by
  intro j u hu
  have hk : j % n < n := Nat.mod_lt _ hn
  have hj : j / n * n + j % n = j := by rw [Nat.mul_comm]; exact Nat.div_add_mod j n
  have e := flat_at f n hf l (j / n) (j % n) hk
  rw [hj, hu] at e
  cases hi : l[j / n]? with
  | none => rw [hi] at e; simp at e
  | some x =>
    rw [hi] at e
    obtain ⟨hlt, hx⟩ := List.getElem?_eq_some_iff.1 hi
    simp only [Option.bind_some] at e
    rw [← hx] at e
    have hc := h _ hlt _ _ e.symm
    rw [hj] at hc
    exact ⟨a, rfl, by have := cell_lt hc; rwa [add_blk] at this, hc⟩

theorem i64_of_wf {x : Int} (h : (Lit.int .i64 x).wf = true) : I64 x := by
  have := bounds_i64 h
  exact ⟨by omega, by omega⟩

theorem cells_joint : Try.prog.cellsOf 56 = 4 := by kernel_rfl
theorem cells_range : Try.prog.cellsOf 54 = 2 := by kernel_rfl
theorem cells_int : Try.prog.cellsOf 3 = 1 := by kernel_rfl
theorem cells_beam : Try.prog.cellsOf 59 = 2 := by kernel_rfl
theorem cells_switch : Try.prog.cellsOf 113 = 3 := by kernel_rfl
theorem cells_string : Try.prog.cellsOf 9 = 1 := by kernel_rfl
theorem cells_ints : Try.prog.cellsOf 67 = 1 := by kernel_rfl

section
variable {H : Type} {enc : TypeId × Value → H} {W : World} {base : Nat} {spare : Nat → Bool} {held : Bool}
theorem trod_int1 {fuel : Nat} {c : Value} {x : Option (DataW H × List MemPlace)} {y : DataW H × List MemPlace} (hx : x = some y) (h : DataW.trod enc Try.prog W base spare held fuel 3 [c] = x) : ∃ n, c = .int .i64 n ∧ I64 n := by
  rw [hx] at h
  obtain ⟨n, hc, _, hw⟩ := DataW.trod_int Try.underlying3 h
  injection hc with hc _
  exact ⟨n, hc, i64_of_wf hw⟩
set_option maxRecDepth 100000 in
theorem trod_range {fuel : Nat} {c0 c1 : Value} {x : Option (DataW H × List MemPlace)} {y : DataW H × List MemPlace} (hx : x = some y) (h : DataW.trod enc Try.prog W base spare held fuel 54 [c0, c1] = x) : ∃ a b, c0 = .int .i64 a ∧ c1 = .int .i64 b ∧ I64 a ∧ I64 b := by
  rw [hx] at h
  obtain ⟨xs, n, _, _, _, hlen, hf⟩ := DataW.trod_struct Try.underlying54 h
  match xs, hlen with
  | [y0, y1], _ =>
    have h0 : DataW.trod enc Try.prog W base spare held n 3 (([c0, c1].drop 0).take (Try.prog.cellsOf 3)) = some y0 := hf 0 _ rfl
    rw [cells_int] at h0
    have h1 : DataW.trod enc Try.prog W base spare held n 3 (([c0, c1].drop 1).take (Try.prog.cellsOf 3)) = some y1 := hf 1 _ rfl
    rw [cells_int] at h1
    obtain ⟨a, rfl, ha⟩ := trod_int1 rfl h0
    obtain ⟨b, rfl, hb⟩ := trod_int1 rfl h1
    exact ⟨a, b, rfl, rfl, ha, hb⟩
set_option maxRecDepth 100000 in
theorem trod_joint {fuel : Nat} {cs : List Value} {x : DataW H × List MemPlace} (h : DataW.trod enc Try.prog W base spare held fuel 56 cs = some x) : ∃ j : Lj, cs = jc j ∧ j.ok := by
  obtain ⟨xs, n, _, _, hl, hlen, hf⟩ := DataW.trod_struct Try.underlying56 h
  rw [cells_joint] at hl
  match cs, hl with
  | [c0, c1, c2, c3], _ =>
    match xs, hlen with
    | [y0, y1, y2], _ =>
      have h0 : DataW.trod enc Try.prog W base spare held n 3 (([c0, c1, c2, c3].drop 0).take (Try.prog.cellsOf 3)) = some y0 := hf 0 _ rfl
      rw [cells_int] at h0
      have h1 : DataW.trod enc Try.prog W base spare held n 3 (([c0, c1, c2, c3].drop 1).take (Try.prog.cellsOf 3)) = some y1 := hf 1 _ rfl
      rw [cells_int] at h1
      have h2 : DataW.trod enc Try.prog W base spare held n 54 (([c0, c1, c2, c3].drop 2).take (Try.prog.cellsOf 54)) = some y2 := hf 2 _ rfl
      rw [cells_range] at h2
      obtain ⟨a, rfl, ha⟩ := trod_int1 rfl h0
      obtain ⟨b, rfl, hb⟩ := trod_int1 rfl h1
      obtain ⟨c, d, rfl, rfl, hc, hd⟩ := trod_range rfl h2
      exact ⟨⟨a, b, c, d⟩, rfl, ha, hb, hc, hd⟩
set_option maxRecDepth 100000 in
theorem trod_beam {fuel : Nat} {cs : List Value} {x : DataW H × List MemPlace} (h : DataW.trod enc Try.prog W base spare held fuel 59 cs = some x) : ∃ b : Lb, cs = bc b ∧ b.ok := by
  obtain ⟨xs, n, _, _, hl, hlen, hf⟩ := DataW.trod_struct Try.underlying59 h
  rw [cells_beam] at hl
  match cs, hl with
  | [c0, c1], _ =>
    match xs, hlen with
    | [y0, y1], _ =>
      have h0 : DataW.trod enc Try.prog W base spare held n 3 (([c0, c1].drop 0).take (Try.prog.cellsOf 3)) = some y0 := hf 0 _ rfl
      rw [cells_int] at h0
      have h1 : DataW.trod enc Try.prog W base spare held n 3 (([c0, c1].drop 1).take (Try.prog.cellsOf 3)) = some y1 := hf 1 _ rfl
      rw [cells_int] at h1
      obtain ⟨a, rfl, ha⟩ := trod_int1 rfl h0
      obtain ⟨b, rfl, hb⟩ := trod_int1 rfl h1
      exact ⟨⟨a, b⟩, rfl, ha, hb⟩

/-- A slice whose elements each are so many cells of a known make. -/
theorem open_made {α : Type} [Inhabited α] (f : α → List Value) (ok : α → Prop) (size : Nat) (hs : 0 < size) (hf : ∀ x, (f x).length = size) {t e : TypeId} (ht : Try.prog.underlying t = some (.slice e)) (hc : Try.prog.cellsOf e = size)
    (hel : ∀ {fuel : Nat} {cs : List Value} {x : DataW H × List MemPlace}, DataW.trod enc Try.prog W base (fun _ => true) held fuel e cs = some x → ∃ y : α, cs = f y ∧ ok y)
    {fuel : Nat} {v : Value} {x : DataW H × List MemPlace} (h : DataW.trod enc Try.prog W base (fun _ => true) held fuel t [v] = some x) :
    ∃ (l : List α) (g : Hd), v = .slice g.A l.length g.c ∧ HdOk g ∧ l.length ≤ maxLen ∧ (∀ y ∈ l, ok y) ∧ Lies W W.heap.size g.A (l.flatMap f) := by
  rcases open_slice ht h with ⟨h0, _⟩ | ⟨a, len, cap, m, n, D, Pl, hcs, hb, hl, hm, hmm, hx, hi⟩
  · injection h0 with h0 _
    exact ⟨[], ⟨none, 0⟩, h0, fun _ => rfl, by simp, fun y hy => by simp at hy, Lies.nil⟩
  · injection hcs with hcs _
    have hlm : len ≤ m := by rw [hmm]; simpa using hl
    have h1 : ∀ i, i < len → ∃ y : α, ok y ∧ ∀ (k : Nat) (u : Value), (f y)[k]? = some u → W.cell? (a.add (i * size + k)) = some u := fun i hi' => by
      obtain ⟨cs', hc', ht'⟩ := hi i (by omega)
      obtain ⟨y, rfl, hy⟩ := hel ht'
      rw [hc] at hc'
      obtain ⟨_, hlen, hat⟩ := World.cells?_some hc'
      refine ⟨y, hy, fun k u hu => ?_⟩
      have hk : k < size := by have := (List.getElem?_eq_some_iff.1 hu).1; rwa [hf] at this
      have := hat k hk
      rw [hu, add_twice] at this
      exact this
    obtain ⟨F, hF⟩ := choose_lt h1
    refine ⟨(List.range len).map F, ⟨some a, cap⟩, by simpa using hcs, (fun h => by cases h), by simp; omega, fun y hy => ?_, ?_⟩
    · obtain ⟨i, hi', rfl⟩ := List.mem_map.1 hy
      exact (hF i (by simpa using hi')).1
    · refine Lies.of_elems f size hs hf fun i hi' k u hu => ?_
      have hi2 : i < len := by simpa using hi'
      simp only [List.getElem_map, List.getElem_range] at hu
      exact (hF i hi2).2 k u hu

/-- A switch as it reads: its name, its first joint, and the head and the numbers of its slice. -/
structure Sr where
  s : Ls
  h : Hd
instance : Inhabited Lj := ⟨⟨0, 0, 0, 0⟩⟩
instance : Inhabited Lb := ⟨⟨0, 0⟩⟩
instance : Inhabited Sr := ⟨⟨⟨⟨#[]⟩, 0, []⟩, ⟨none, 0⟩⟩⟩
instance : Inhabited Int := ⟨0⟩
def src (r : Sr) : List Value := sc (r.s, r.h)
def Sr.ok (W : World) (r : Sr) : Prop := r.s.ok ∧ r.s.name.size ≤ maxLen ∧ r.s.across.length ≤ maxLen ∧ HdOk r.h ∧ Lies W W.heap.size r.h.A (ic r.s.across)

theorem flat_single : ∀ l : List Int, l.flatMap (fun x : Int => [Value.int .i64 x]) = ic l
  | [] => rfl
  | x :: l => by rw [List.flatMap_cons, flat_single l]; rfl

set_option maxRecDepth 100000 in
theorem trod_switch {fuel : Nat} {cs : List Value} {x : DataW H × List MemPlace} (h : DataW.trod enc Try.prog W base (fun _ => true) held fuel 113 cs = some x) : ∃ r : Sr, cs = src r ∧ r.ok W := by
  obtain ⟨xs, n, _, _, hl, hlen, hf⟩ := DataW.trod_struct Try.underlying113 h
  rw [cells_switch] at hl
  match cs, hl with
  | [c0, c1, c2], _ =>
    match xs, hlen with
    | [y0, y1, y2], _ =>
      have h0 : DataW.trod enc Try.prog W base (fun _ => true) held n 9 (([c0, c1, c2].drop 0).take (Try.prog.cellsOf 9)) = some y0 := hf 0 _ rfl
      rw [cells_string] at h0
      have h1 : DataW.trod enc Try.prog W base (fun _ => true) held n 3 (([c0, c1, c2].drop 1).take (Try.prog.cellsOf 3)) = some y1 := hf 1 _ rfl
      rw [cells_int] at h1
      have h2 : DataW.trod enc Try.prog W base (fun _ => true) held n 67 (([c0, c1, c2].drop 2).take (Try.prog.cellsOf 67)) = some y2 := hf 2 _ rfl
      rw [cells_ints] at h2
      obtain ⟨s, hs, _, hsz⟩ := DataW.trod_string Try.underlying9 h0
      injection hs with hs _
      subst hs
      obtain ⟨a, rfl, ha⟩ := trod_int1 rfl h1
      obtain ⟨l, g, rfl, hg, hll, hok, hL⟩ := open_made (fun x : Int => [.int .i64 x]) I64 1 (by decide) (fun _ => rfl) Try.underlying67 cells_int (fun {fuel cs x} h => by
        obtain ⟨n, hc, _, hw⟩ := DataW.trod_int Try.underlying3 h
        exact ⟨n, hc, i64_of_wf hw⟩) h2
      have hfl : l.flatMap (fun x : Int => [Value.int .i64 x]) = ic l := flat_single l
      rw [hfl] at hL
      exact ⟨⟨⟨s, a, l⟩, g⟩, rfl, ⟨ha, hok⟩, hsz, hll, hg, hL⟩

theorem zip_map {l : List Sr} : ((l.map Sr.s).zip (l.map Sr.h)).flatMap sc = l.flatMap src := by
  induction l with
  | nil => rfl
  | cons r l ih => simp only [List.map_cons, List.zip_cons_cons, List.flatMap_cons, ih]; rfl

set_option maxRecDepth 100000 in
theorem open_line {r : Reach} {b0 : Nat} {v : Value} {d : DataW H} {p : List MemPlace} (hv : Value.okWide Try.prog W r b0 26 v) (h : DataW.Trod enc Try.prog W base (fun _ => true) held 26 v d p) :
    ∃ (L : Ll) (H : Hds), v = (.agg #[.string L.name, .slice H.j.A L.js.length H.j.c, .slice H.b.A L.bs.length H.b.c, .slice H.s.A L.ss.length H.s.c]) ∧ LnAt W W.heap.size L H ∧ HdsOk H ∧ L.name.size ≤ maxLen ∧ L.js.length ≤ maxLen ∧ L.bs.length ≤ maxLen ∧ L.ss.length ≤ maxLen ∧ (∀ s ∈ L.ss, s.across.length ≤ maxLen ∧ s.name.size ≤ maxLen) ∧
      (∀ j ∈ L.js, j.ok) ∧ (∀ b ∈ L.bs, b.ok) ∧ (∀ s ∈ L.ss, s.ok) := by
  obtain ⟨v0, v1, v2, v3, y0, y1, y2, y3, n, rfl, _, _, h0, h1, h2, h3⟩ := open_agg4 Try.underlying26 (by kernel_rfl) (by kernel_rfl) hv h
  obtain ⟨s, hs, _, hsz⟩ := DataW.trod_string Try.underlying9 h0
  injection hs with hs _
  subst hs
  obtain ⟨js, gj, rfl, hgj, hlj, hoj, hLj⟩ := open_made jc Lj.ok 4 (by decide) (fun _ => rfl) Try.underlying22 cells_joint (fun h => trod_joint h) h1
  obtain ⟨bs, gb, rfl, hgb, hlb, hob, hLb⟩ := open_made bc Lb.ok 2 (by decide) (fun _ => rfl) Try.underlying23 cells_beam (fun h => trod_beam h) h2
  obtain ⟨rs, gs, rfl, hgs, hls, hos, hLs⟩ := open_made src (Sr.ok W) 3 (by decide) (fun _ => rfl) Try.underlying24 cells_switch (fun h => trod_switch h) h3
  refine ⟨⟨s, js, bs, rs.map Sr.s⟩, ⟨gj, gb, gs, rs.map Sr.h⟩, by simp, ⟨hLj, hLb, by simp, by rw [zip_map]; exact hLs, fun i t g h1 h2 => ?_⟩, ⟨hgj, hgb, hgs, fun g hg => ?_⟩, hsz, hlj, hlb, by simpa using hls, fun t ht => ?_, hoj, hob, fun t ht => ?_⟩
  · simp only [List.getElem?_map] at h1 h2
    cases hr : rs[i]? with
    | none => rw [hr] at h1; cases h1
    | some q =>
      rw [hr] at h1 h2
      cases h1
      cases h2
      exact (hos q (List.mem_of_getElem? hr)).2.2.2.2
  · obtain ⟨q, hq, rfl⟩ := List.mem_map.1 hg
    exact (hos q hq).2.2.2.1
  · obtain ⟨q, hq, rfl⟩ := List.mem_map.1 ht
    exact ⟨(hos q hq).2.2.1, (hos q hq).2.1⟩
  · obtain ⟨q, hq, rfl⟩ := List.mem_map.1 ht
    exact (hos q hq).1
end
end Go.Proofs.Ytmnlgeglmkdecaa
