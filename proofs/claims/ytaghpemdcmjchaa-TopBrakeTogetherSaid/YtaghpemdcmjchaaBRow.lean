
/-
  What each row of chapter 5 wants: its arguments opened, the end of its proof.
-/
import Derived.Test.YtaghpemdcmjchaaBTr
import Derived.Test.YtaghpemdcmjchaaRows
import Derived.WalkKit
import Derived.ProofKit
import Derived.Carry
import Derived.Lib.SmallJoins
import Derived.Deep.Slices
import Derived.Deep.Fields
import Derived.OpenShut
namespace Go.Proofs.Ytaghpemdcmjchaa
open Go.RowKit Go.ChangeShapes Go.WideShapes Go.ChangeAt Go.Joins Go.Deep

theorem Lies.of_elems {α : Type} {w : World} {a : Addr} {l : List α} (f : α → List Value) (n : Nat) (hn : 0 < n) (hf : ∀ x, (f x).length = n)
    (h : ∀ (i : Nat) (hi : i < l.length) (k : Nat) (u : Value), (f l[i])[k]? = some u → w.cell? (a.add (i * n + k)) = some u) : Lies w w.heap.size (some a) (l.flatMap f) := by
  intro j u hu
  have hk : j % n < n := Nat.mod_lt _ hn
  have hj : j / n * n + j % n = j := by rw [Nat.mul_comm]; exact Nat.div_add_mod j n
  have e := flat_at f n hf l (j / n) (j % n) hk
  rw [hj, hu] at e
  cases hi : l[j / n]? with
  | none => rw [hi] at e; simp at e
  | some x =>
    rw [hi] at e
    obtain ⟨hlt, hx⟩ := List.getElem?_eq_some_iff.1 hi
    simp only [Option.bind_some] at e
    rw [← hx] at e
    have hc := h _ hlt _ _ e.symm
    rw [hj] at hc
    exact ⟨a, rfl, by have := cell_lt hc; rwa [add_blk] at this, hc⟩

theorem i64_of_wf {x : Int} (h : (Lit.int .i64 x).wf = true) : I64 x := by
  have := bounds_i64 h
  exact ⟨by omega, by omega⟩

theorem cells_piece : Try.prog.cellsOf 54 = 4 := by kernel_rfl
theorem cells_int : Try.prog.cellsOf 3 = 1 := by kernel_rfl
theorem cells_bool : Try.prog.cellsOf 4 = 1 := by kernel_rfl
instance : Inhabited Bp := ⟨⟨0, 0, 0, false⟩⟩
def Bp.ok (p : Bp) : Prop := I64 p.len ∧ I64 p.grad ∧ I64 p.lim

section
variable {H : Type} {enc : TypeId × Value → H} {W : World} {base : Nat} {spare : Nat → Bool} {held : Bool}
theorem trod_int1 {fuel : Nat} {c : Value} {x : Option (DataW H × List MemPlace)} {y : DataW H × List MemPlace} (hx : x = some y) (h : DataW.trod enc Try.prog W base spare held fuel 3 [c] = x) : ∃ n, c = .int .i64 n ∧ I64 n := by
  rw [hx] at h
  obtain ⟨n, hc, _, hw⟩ := DataW.trod_int Try.underlying3 h
  injection hc with hc _
  exact ⟨n, hc, i64_of_wf hw⟩
set_option maxRecDepth 100000 in
theorem trod_piece {fuel : Nat} {cs : List Value} {x : DataW H × List MemPlace} (h : DataW.trod enc Try.prog W base spare held fuel 54 cs = some x) : ∃ p : Bp, cs = pc p ∧ p.ok := by
  obtain ⟨xs, n, _, _, hl, hlen, hf⟩ := DataW.trod_struct Try.underlying54 h
  rw [cells_piece] at hl
  match cs, hl with
  | [c0, c1, c2, c3], _ =>
    match xs, hlen with
    | [y0, y1, y2, y3], _ =>
      have h0 : DataW.trod enc Try.prog W base spare held n 3 (([c0, c1, c2, c3].drop 0).take (Try.prog.cellsOf 3)) = some y0 := hf 0 _ rfl
      rw [cells_int] at h0
      have h1 : DataW.trod enc Try.prog W base spare held n 3 (([c0, c1, c2, c3].drop 1).take (Try.prog.cellsOf 3)) = some y1 := hf 1 _ rfl
      rw [cells_int] at h1
      have h2 : DataW.trod enc Try.prog W base spare held n 3 (([c0, c1, c2, c3].drop 2).take (Try.prog.cellsOf 3)) = some y2 := hf 2 _ rfl
      rw [cells_int] at h2
      have h3 : DataW.trod enc Try.prog W base spare held n 4 (([c0, c1, c2, c3].drop 3).take (Try.prog.cellsOf 4)) = some y3 := hf 3 _ rfl
      rw [cells_bool] at h3
      obtain ⟨a, rfl, ha⟩ := trod_int1 rfl h0
      obtain ⟨b, rfl, hb⟩ := trod_int1 rfl h1
      obtain ⟨c, rfl, hc⟩ := trod_int1 rfl h2
      obtain ⟨d, hd, _⟩ := DataW.trod_bool Try.underlying4 h3
      injection hd with hd _
      subst hd
      exact ⟨⟨a, b, c, d⟩, rfl, ha, hb, hc⟩

/-- A slice whose elements each are so many cells of a known make. -/
theorem open_made {α : Type} [Inhabited α] (f : α → List Value) (ok : α → Prop) (size : Nat) (hs : 0 < size) (hf : ∀ x, (f x).length = size) {t e : TypeId} (ht : Try.prog.underlying t = some (.slice e)) (hc : Try.prog.cellsOf e = size)
    (hel : ∀ {fuel : Nat} {cs : List Value} {x : DataW H × List MemPlace}, DataW.trod enc Try.prog W base (fun _ => true) held fuel e cs = some x → ∃ y : α, cs = f y ∧ ok y)
    {fuel : Nat} {v : Value} {x : DataW H × List MemPlace} (h : DataW.trod enc Try.prog W base (fun _ => true) held fuel t [v] = some x) :
    ∃ (l : List α) (g : Hd), v = .slice g.A l.length g.c ∧ HdOk g ∧ l.length ≤ maxLen ∧ (∀ y ∈ l, ok y) ∧ Lies W W.heap.size g.A (l.flatMap f) := by
  rcases open_slice ht h with ⟨h0, _⟩ | ⟨a, len, cap, m, n, D, Pl, hcs, hb, hl, hm, hmm, hx, hi⟩
  · injection h0 with h0 _
    exact ⟨[], ⟨none, 0⟩, h0, fun _ => rfl, by simp, fun y hy => by simp at hy, Lies.nil⟩
  · injection hcs with hcs _
    have hlm : len ≤ m := by rw [hmm]; simpa using hl
    have h1 : ∀ i, i < len → ∃ y : α, ok y ∧ ∀ (k : Nat) (u : Value), (f y)[k]? = some u → W.cell? (a.add (i * size + k)) = some u := fun i hi' => by
      obtain ⟨cs', hc', ht'⟩ := hi i (by omega)
      obtain ⟨y, rfl, hy⟩ := hel ht'
      rw [hc] at hc'
      obtain ⟨_, hlen, hat⟩ := World.cells?_some hc'
      refine ⟨y, hy, fun k u hu => ?_⟩
      have hk : k < size := by have := (List.getElem?_eq_some_iff.1 hu).1; rwa [hf] at this
      have := hat k hk
      rw [hu, add_twice] at this
      exact this
    obtain ⟨F, hF⟩ := choose_lt h1
    refine ⟨(List.range len).map F, ⟨some a, cap⟩, by simpa using hcs, (fun h => by cases h), by simp; omega, fun y hy => ?_, ?_⟩
    · obtain ⟨i, hi', rfl⟩ := List.mem_map.1 hy
      exact (hF i (by simpa using hi')).1
    · refine Lies.of_elems f size hs hf fun i hi' k u hu => ?_
      have hi2 : i < len := by simpa using hi'
      simp only [List.getElem_map, List.getElem_range] at hu
      exact (hF i hi2).2 k u hu

set_option maxRecDepth 100000 in
theorem open_btrack {r : Reach} {b0 : Nat} {v : Value} {d : DataW H} {p : List MemPlace} (hv : Value.okWide Try.prog W r b0 24 v) (h : DataW.Trod enc Try.prog W base (fun _ => true) held 24 v d p) :
    ∃ (s : ByteArray) (ps : List Bp) (A : Option Addr) (c : Nat), v = .agg #[.string s, .slice A ps.length c] ∧ s.size ≤ maxLen ∧ HdOk ⟨A, c⟩ ∧ ps.length ≤ maxLen ∧ (∀ p ∈ ps, p.ok) ∧ Lies W W.heap.size A (ps.flatMap pc) := by
  obtain ⟨v0, v1, y0, y1, n, rfl, _, _, h0, h1⟩ := open_agg2 Try.underlying24 (by kernel_rfl) (by kernel_rfl) hv h
  obtain ⟨s, hs, _, hsz⟩ := DataW.trod_string Try.underlying9 h0
  injection hs with hs _
  subst hs
  obtain ⟨ps, ⟨A, c⟩, rfl, hg, hl, ho, hL⟩ := open_made pc Bp.ok 4 (by decide) (fun _ => rfl) Try.underlying22 cells_piece (fun h => trod_piece h) h1
  exact ⟨s, ps, A, c, rfl, hsz, hg, hl, ho, hL⟩
set_option maxRecDepth 100000 in
theorem open_bsys {r : Reach} {b0 : Nat} {v : Value} {d : DataW H} {p : List MemPlace} (hv : Value.okWide Try.prog W r b0 26 v) (h : DataW.Trod enc Try.prog W base (fun _ => true) held 26 v d p) :
    ∃ b : Bs, v = .agg #[.int .i64 b.brk, .int .i64 b.drag, .int .i64 b.drv] := by
  obtain ⟨v0, v1, v2, y0, y1, y2, n, rfl, _, _, h0, h1, h2⟩ := open_agg3 Try.underlying26 (by kernel_rfl) (by kernel_rfl) hv h
  obtain ⟨a, rfl, _⟩ := trod_int1 rfl h0
  obtain ⟨b, rfl, _⟩ := trod_int1 rfl h1
  obtain ⟨c, rfl, _⟩ := trod_int1 rfl h2
  exact ⟨⟨a, b, c⟩, rfl⟩
end
theorem own_try : ownKnob Try.prog.godebug = none := by kernel_rfl
theorem laid_try : laidOutB Try.prog = true := by kernel_rfl
section
variable {H : Type} {enc : TypeId × Value → H} {W W' : World}
/-- An argument reads behind the call as before. -/
theorem reads_on {t : TypeId} (hr : Try.prog.readableRec t = true) (hrow : t < Try.prog.types.size) {v : Value} {d : DataW H} {ps : List MemPlace} (h : DataW.Trod enc Try.prog W 0 (fun _ => true) true t v d ps) (hb : Below W.heap.size W W') (hlt : ∀ x ∈ ps, x.block < W.heap.size) :
    DataW.Trod enc Try.prog W' 0 (fun b => decide (b < W.heap.size)) true t v d ps := Below.trod laid_try hr hrow h hb hlt
/-- A law of two parameters that answered true. -/
theorem law_two {f : Func} {s : ChangeSpec} {t0 t1 : TypeId} {v0 v1 : Value} {d0 d1 : DataW H} {p0 p1 : List MemPlace} (hv : s.vars = []) (hfp : f.params.toList = [t0, t1]) (hrt : f.resultTypes = #[4])
    (hfn : s.fn H [d0, d1] = { results := [.lit (.bool true)], args := [d0, d1] })
    (hW : DataW.Whole enc Try.prog f.params.toList s.vars false W [v0, v1] [d0, d1] [] (p0 ++ p1))
    (h0 : DataW.Trod enc Try.prog W 0 (fun _ => true) true t0 v0 d0 p0) (h1 : DataW.Trod enc Try.prog W 0 (fun _ => true) true t1 v1 d1 p1)
    (r0 : Try.prog.readableRec t0 = true) (r1 : Try.prog.readableRec t1 = true) (n0 : t0 < Try.prog.types.size) (n1 : t1 < Try.prog.types.size) (hb : Below W.heap.size W W') :
    s.post enc Try.prog f false true false false W #[v0, v1] (.bool true) W' := by
  have hlt := fun x hx => hW.lt (p := x) hx
  refine ⟨[d0, d1], [], p0 ++ p1, [], p0 ++ p1, [], hW, ?_, ?_, ?_, hb.frame _, fun h => by cases h⟩
  · rw [List.append_nil, hfn, hrt]
    exact trodAll_mk1 (shut_bool Try.underlying4 true)
  · rw [List.append_nil, hfn, hfp]
    exact trodAll_mk2 (reads_on r0 n0 h0 hb (fun x hx => hlt x (List.mem_append_left _ hx))) (reads_on r1 n1 h1 hb (fun x hx => hlt x (List.mem_append_right _ hx)))
  · rw [List.append_nil, hfn, hv]
    rfl
theorem law_three {f : Func} {s : ChangeSpec} {t0 t1 t2 : TypeId} {v0 v1 v2 : Value} {d0 d1 d2 : DataW H} {p0 p1 p2 : List MemPlace} (hv : s.vars = []) (hfp : f.params.toList = [t0, t1, t2]) (hrt : f.resultTypes = #[4])
    (hfn : s.fn H [d0, d1, d2] = { results := [.lit (.bool true)], args := [d0, d1, d2] })
    (hW : DataW.Whole enc Try.prog f.params.toList s.vars false W [v0, v1, v2] [d0, d1, d2] [] (p0 ++ (p1 ++ p2)))
    (h0 : DataW.Trod enc Try.prog W 0 (fun _ => true) true t0 v0 d0 p0) (h1 : DataW.Trod enc Try.prog W 0 (fun _ => true) true t1 v1 d1 p1) (h2 : DataW.Trod enc Try.prog W 0 (fun _ => true) true t2 v2 d2 p2)
    (r0 : Try.prog.readableRec t0 = true) (r1 : Try.prog.readableRec t1 = true) (r2 : Try.prog.readableRec t2 = true) (n0 : t0 < Try.prog.types.size) (n1 : t1 < Try.prog.types.size) (n2 : t2 < Try.prog.types.size) (hb : Below W.heap.size W W') :
    s.post enc Try.prog f false true false false W #[v0, v1, v2] (.bool true) W' := by
  have hlt := fun x hx => hW.lt (p := x) hx
  refine ⟨[d0, d1, d2], [], p0 ++ (p1 ++ p2), [], p0 ++ (p1 ++ p2), [], hW, ?_, ?_, ?_, hb.frame _, fun h => by cases h⟩
  · rw [List.append_nil, hfn, hrt]
    exact trodAll_mk1 (shut_bool Try.underlying4 true)
  · rw [List.append_nil, hfn, hfp]
    exact trodAll_mk3 (reads_on r0 n0 h0 hb (fun x hx => hlt x (List.mem_append_left _ hx))) (reads_on r1 n1 h1 hb (fun x hx => hlt x (List.mem_append_right _ (List.mem_append_left _ hx)))) (reads_on r2 n2 h2 hb (fun x hx => hlt x (List.mem_append_right _ (List.mem_append_right _ hx))))
  · rw [List.append_nil, hfn, hv]
    rfl
end
end Go.Proofs.Ytaghpemdcmjchaa
