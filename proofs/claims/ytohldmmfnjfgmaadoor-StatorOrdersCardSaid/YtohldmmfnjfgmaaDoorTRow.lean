
/-
  What each card of a law of chapter 3 wants: arguments opened, the laid table, the end of the row's proof, the card.
-/
import Derived.Test.YtohldmmfnjfgmaaDoorTAwk
import Derived.Test.YtohldmmfnjfgmaaDoorRows
import Derived.Test.YtohldmmfnjfgmaaDoorCards
import Derived.Test.YtohldmmfnjfgmaaDoorTie
import Derived.SevenTiedAt
import Derived.WalkKit
import Derived.ProofKit
import Derived.Carry
import Derived.LaidMore
import Derived.OpenShut
import Derived.Stop.Joined
import Derived.Lib.SmallJoins
import Derived.Deep.Slices
import Derived.Deep.Fields
namespace Go.Proofs.YtohldmmfnjfgmaaDoor
open Go.ChangeShapes Go.WideShapes Go.ChangeAt Go.RowKit Go.Joins Go.Deep

theorem own_try : ownKnob Tryd.prog.godebug = none := by kernel_rfl
theorem laid_try : laidOutB Tryd.prog = true := by kernel_rfl
theorem cells_int : Tryd.prog.cellsOf 3 = 1 := by kernel_rfl
theorem cells_third : Tryd.prog.cellsOf 24 = 2 := by kernel_rfl
theorem i64_of_wf {x : Int} (h : (Lit.int .i64 x).wf = true) : I64 x := by
  have := bounds_i64 h
  exact ⟨by omega, by omega⟩
section
variable {H : Type} {enc : TypeId × Value → H} {W : World} {base : Nat} {spare : Nat → Bool} {held : Bool}
theorem trod_i {fuel : Nat} {c : Value} {x : DataW H × List MemPlace} (h : DataW.trod enc Tryd.prog W base spare held fuel 3 [c] = some x) : ∃ n, c = .int .i64 n ∧ x.1 = .lit (.int .i64 n) ∧ I64 n := by
  obtain ⟨n, hc, hx, hw⟩ := DataW.trod_int Tryd.underlying3 h
  injection hc with hc _
  exact ⟨n, hc, by rw [hx], i64_of_wf hw⟩
set_option maxRecDepth 100000 in
theorem trod_third {fuel : Nat} {cs : List Value} {x : DataW H × List MemPlace} (h : DataW.trod enc Tryd.prog W base spare held fuel 24 cs = some x) : ∃ v : T3, cs = tc v ∧ x.1 = .agg [.lit (.int .i64 v.a), .lit (.int .i64 v.b)] ∧ I64 v.a ∧ I64 v.b := by
  obtain ⟨xs, n, _, hx, hl, hlen, hf⟩ := DataW.trod_struct Tryd.underlying24 h
  rw [cells_third] at hl
  match cs, hl with
  | [c0, c1], _ =>
    match xs, hlen with
    | [y0, y1], _ =>
      have h0 : DataW.trod enc Tryd.prog W base spare held n 3 (([c0, c1].drop 0).take (Tryd.prog.cellsOf 3)) = some y0 := hf 0 _ rfl
      rw [cells_int] at h0
      have h1 : DataW.trod enc Tryd.prog W base spare held n 3 (([c0, c1].drop 1).take (Tryd.prog.cellsOf 3)) = some y1 := hf 1 _ rfl
      rw [cells_int] at h1
      obtain ⟨a, rfl, e0, ha⟩ := trod_i h0
      obtain ⟨b, rfl, e1, hb⟩ := trod_i h1
      exact ⟨⟨a, b⟩, rfl, by rw [hx]; simp [e0, e1], ha, hb⟩
end

/-- The table's datum, state by state. -/
def stD {H : Type} (s : Nat) : DataW H := .agg [.lit (.int .i64 (stV s).a), .lit (.int .i64 (stV s).b)]
theorem laid_eq {H : Type} : (Rows.laid_guideway_stator_stateVectors : DataW H) = .agg ((List.range 8).map stD) := rfl
theorem gTab : Tryd.prog.globalNamed "guideway/stator.stateVectors" = some 0 := by kernel_rfl
theorem tTab : (Tryd.prog.globals[0]?).map (·.type) = some 107 := by kernel_rfl
theorem tab_of_laid {W : World} (h : laidMetH Tryd.prog [("guideway/stator.stateVectors", Rows.laid_guideway_stator_stateVectors)] W) : Tab W := by
  rw [MakeChecks.laidMetH_plain _ _ _ (by kernel_rfl)] at h
  obtain ⟨ps, ⟨g0, t0, cs0, f0, p0, q0, hg0, ht0, hv0, hd0, _, _⟩, _, _⟩ := h
  obtain rfl := Option.some.inj (gTab.symm.trans hg0)
  obtain rfl := Option.some.inj (tTab.symm.trans ht0)
  obtain ⟨xs, m, _, hx, hlen, hn, hel⟩ := DataW.trod_array Tryd.underlying107 hd0
  intro s hs
  have hxs : xs.map (·.1) = (List.range 8).map stD := by
    have := (Prod.mk.inj hx).1
    rw [laid_eq] at this
    exact (DataW.agg.inj this).symm
  obtain ⟨y, hy⟩ : ∃ y, xs[s]? = some y := ⟨_, List.getElem?_eq_getElem (by omega)⟩
  have h1 := hel s hs
  rw [hy, cells_third] at h1
  obtain ⟨v, hc, hd, _, _⟩ := trod_third h1
  have h2 : (xs.map (·.1))[s]? = some y.1 := by rw [List.getElem?_map, hy]; rfl
  rw [hxs, List.getElem?_map, List.getElem?_range hs] at h2
  simp only [Option.map_some, Option.some.injEq] at h2
  rw [hd] at h2
  simp only [stD, DataW.agg.injEq, List.cons.injEq, DataW.lit.injEq, Lit.int.injEq, true_and, and_true] at h2
  obtain ⟨e1, e2⟩ := h2
  have c0 : cs0.toList[s * 2]? = some (.int .i64 v.a) := by
    have : ((cs0.toList.drop (s * 2)).take 2)[0]? = some (.int .i64 v.a) := by rw [hc]; rfl
    rw [List.getElem?_take_of_lt (by omega), List.getElem?_drop] at this
    simpa using this
  have c1 : cs0.toList[s * 2 + 1]? = some (.int .i64 v.b) := by
    have : ((cs0.toList.drop (s * 2)).take 2)[1]? = some (.int .i64 v.b) := by rw [hc]; rfl
    rw [List.getElem?_take_of_lt (by omega), List.getElem?_drop] at this
    simpa using this
  have k0 := World.var?_cell hg0 hv0 (s * 2)
  have k1 := World.var?_cell hg0 hv0 (s * 2 + 1)
  rw [← e1, ← e2] at *
  exact ⟨by rw [k0]; simpa using c0, by rw [k1]; simpa using c1⟩
/-- The door's own heap meets the condition. -/
theorem door_met (os : Os) (args : Array Value) : laidMetH Tryd.prog [("guideway/stator.stateVectors", Rows.laid_guideway_stator_stateVectors)] ((World.doorLaid Tryd.prog 400 os).forCall (fun _ _ => 0) ⟨#[], args, []⟩).memory :=
  laidMetH_of_parts3 (fuel := 8) (laidMet_of_run' 8 (by kernel_rfl) (by kernel_rfl)) (by kernel_rfl) (by kernel_rfl)

section
variable {H : Type} {enc : TypeId × Value → H} {W W' : World} {base : Nat} {held : Bool}
/-- An argument reads behind the call as before. -/
theorem reads_on {t : TypeId} (hr : Tryd.prog.readableRec t = true) (hrow : t < Tryd.prog.types.size) {v : Value} {d : DataW H} {ps : List MemPlace} (h : DataW.Trod enc Tryd.prog W 0 (fun _ => true) true t v d ps) (hb : Below W.heap.size W W') (hlt : ∀ x ∈ ps, x.block < W.heap.size) :
    DataW.Trod enc Tryd.prog W' 0 (fun b => decide (b < W.heap.size)) true t v d ps := Below.trod laid_try hr hrow h hb hlt
theorem law_one {f : Func} {s : ChangeSpec} {t0 : TypeId} {v0 : Value} {d0 : DataW H} {p0 : List MemPlace} (hv : s.vars = []) (hfp : f.params.toList = [t0]) (hrt : f.resultTypes = #[4])
    (hfn : s.fn H [d0] = { results := [.lit (.bool true)], args := [d0] })
    (hW : DataW.Whole enc Tryd.prog f.params.toList s.vars false W [v0] [d0] [] p0)
    (h0 : DataW.Trod enc Tryd.prog W 0 (fun _ => true) true t0 v0 d0 p0) (r0 : Tryd.prog.readableRec t0 = true) (n0 : t0 < Tryd.prog.types.size) (hb : Below W.heap.size W W') :
    s.post enc Tryd.prog f false true false false W #[v0] (.bool true) W' := by
  have hlt := fun x hx => hW.lt (p := x) hx
  refine ⟨[d0], [], p0, [], p0, [], by simpa using hW, ?_, ?_, ?_, hb.frame _, fun h => by cases h⟩
  · rw [List.append_nil, hfn, hrt]
    exact trodAll_mk1 (shut_bool Tryd.underlying4 true)
  · rw [List.append_nil, hfn, hfp]
    exact trodAll_mk1 (reads_on r0 n0 h0 hb hlt)
  · rw [List.append_nil, hfn, hv]
    rfl
theorem law_two {f : Func} {s : ChangeSpec} {t0 t1 : TypeId} {v0 v1 : Value} {d0 d1 : DataW H} {p0 p1 : List MemPlace} (hv : s.vars = []) (hfp : f.params.toList = [t0, t1]) (hrt : f.resultTypes = #[4])
    (hfn : s.fn H [d0, d1] = { results := [.lit (.bool true)], args := [d0, d1] })
    (hW : DataW.Whole enc Tryd.prog f.params.toList s.vars false W [v0, v1] [d0, d1] [] (p0 ++ p1))
    (h0 : DataW.Trod enc Tryd.prog W 0 (fun _ => true) true t0 v0 d0 p0) (h1 : DataW.Trod enc Tryd.prog W 0 (fun _ => true) true t1 v1 d1 p1)
    (r0 : Tryd.prog.readableRec t0 = true) (r1 : Tryd.prog.readableRec t1 = true) (n0 : t0 < Tryd.prog.types.size) (n1 : t1 < Tryd.prog.types.size) (hb : Below W.heap.size W W') :
    s.post enc Tryd.prog f false true false false W #[v0, v1] (.bool true) W' := by
  have hlt := fun x hx => hW.lt (p := x) hx
  refine ⟨[d0, d1], [], p0 ++ p1, [], p0 ++ p1, [], hW, ?_, ?_, ?_, hb.frame _, fun h => by cases h⟩
  · rw [List.append_nil, hfn, hrt]
    exact trodAll_mk1 (shut_bool Tryd.underlying4 true)
  · rw [List.append_nil, hfn, hfp]
    exact trodAll_mk2 (reads_on r0 n0 h0 hb (fun x hx => hlt x (List.mem_append_left _ hx))) (reads_on r1 n1 h1 hb (fun x hx => hlt x (List.mem_append_right _ hx)))
  · rw [List.append_nil, hfn, hv]
    rfl
theorem law_three {f : Func} {s : ChangeSpec} {t0 t1 t2 : TypeId} {v0 v1 v2 : Value} {d0 d1 d2 : DataW H} {p0 p1 p2 : List MemPlace} (hv : s.vars = []) (hfp : f.params.toList = [t0, t1, t2]) (hrt : f.resultTypes = #[4])
    (hfn : s.fn H [d0, d1, d2] = { results := [.lit (.bool true)], args := [d0, d1, d2] })
    (hW : DataW.Whole enc Tryd.prog f.params.toList s.vars false W [v0, v1, v2] [d0, d1, d2] [] (p0 ++ (p1 ++ p2)))
    (h0 : DataW.Trod enc Tryd.prog W 0 (fun _ => true) true t0 v0 d0 p0) (h1 : DataW.Trod enc Tryd.prog W 0 (fun _ => true) true t1 v1 d1 p1) (h2 : DataW.Trod enc Tryd.prog W 0 (fun _ => true) true t2 v2 d2 p2)
    (r0 : Tryd.prog.readableRec t0 = true) (r1 : Tryd.prog.readableRec t1 = true) (r2 : Tryd.prog.readableRec t2 = true) (n0 : t0 < Tryd.prog.types.size) (n1 : t1 < Tryd.prog.types.size) (n2 : t2 < Tryd.prog.types.size) (hb : Below W.heap.size W W') :
    s.post enc Tryd.prog f false true false false W #[v0, v1, v2] (.bool true) W' := by
  have hlt := fun x hx => hW.lt (p := x) hx
  refine ⟨[d0, d1, d2], [], p0 ++ (p1 ++ p2), [], p0 ++ (p1 ++ p2), [], hW, ?_, ?_, ?_, hb.frame _, fun h => by cases h⟩
  · rw [List.append_nil, hfn, hrt]
    exact trodAll_mk1 (shut_bool Tryd.underlying4 true)
  · rw [List.append_nil, hfn, hfp]
    exact trodAll_mk3 (reads_on r0 n0 h0 hb (fun x hx => hlt x (List.mem_append_left _ hx))) (reads_on r1 n1 h1 hb (fun x hx => hlt x (List.mem_append_right _ (List.mem_append_left _ hx)))) (reads_on r2 n2 h2 hb (fun x hx => hlt x (List.mem_append_right _ (List.mem_append_right _ hx))))
  · rw [List.append_nil, hfn, hv]
    rfl
set_option maxRecDepth 100000 in
theorem open_third {r : Reach} {b0 : Nat} {v : Value} {d : DataW H} {p : List MemPlace} (hv : Value.okWide Tryd.prog W r b0 24 v) (h : DataW.Trod enc Tryd.prog W base (fun _ => true) held 24 v d p) : ∃ x : T3, v = (.agg #[.int .i64 x.a, .int .i64 x.b]) ∧ I64 x.a ∧ I64 x.b := by
  obtain ⟨cs, rfl, hsz⟩ := okWide_struct Tryd.underlying24 hv
  obtain ⟨fuel, hf⟩ := h
  obtain ⟨x, hc, _, ha, hb⟩ := trod_third hf
  obtain ⟨l⟩ := cs
  exact ⟨x, by simp only [Value.cells] at hc; rw [show l = tc x from hc]; rfl, ha, hb⟩
end
end Go.Proofs.YtohldmmfnjfgmaaDoor
