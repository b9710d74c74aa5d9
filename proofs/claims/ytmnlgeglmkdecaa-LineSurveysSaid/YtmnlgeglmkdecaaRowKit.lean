/-
  What each row of a law's statement wants: the end of its proof.
-/
import Derived.Test.YtmnlgeglmkdecaaOpen
import Derived.Test.YtmnlgeglmkdecaaRows
import Derived.WalkKit
import Derived.ProofKit
import Derived.Carry
namespace Go.Proofs.Ytmnlgeglmkdecaa
open Go.ChangeShapes Go.WideShapes Go.ChangeAt Go.RowKit

theorem own_try : ownKnob Try.prog.godebug = none := by kernel_rfl
theorem laid_try : laidOutB Try.prog = true := by kernel_rfl
section
variable {H : Type} {enc : TypeId × Value → H} {W W' : World}
/-- An argument reads behind the call as before. -/
theorem reads_on {t : TypeId} (hr : Try.prog.readableRec t = true) (hrow : t < Try.prog.types.size) {v : Value} {d : DataW H} {ps : List MemPlace} (h : DataW.Trod enc Try.prog W 0 (fun _ => true) true t v d ps) (hb : Below W.heap.size W W') (hlt : ∀ x ∈ ps, x.block < W.heap.size) :
    DataW.Trod enc Try.prog W' 0 (fun b => decide (b < W.heap.size)) true t v d ps := Below.trod laid_try hr hrow h hb hlt
/-- A law of two parameters that answered true. -/
theorem law_two {f : Func} {s : ChangeSpec} {t0 t1 : TypeId} {v0 v1 : Value} {d0 d1 : DataW H} {p0 p1 : List MemPlace} (hv : s.vars = []) (hfp : f.params.toList = [t0, t1]) (hrt : f.resultTypes = #[4])
    (hfn : s.fn H [d0, d1] = { results := [.lit (.bool true)], args := [d0, d1] })
    (hW : DataW.Whole enc Try.prog f.params.toList s.vars false W [v0, v1] [d0, d1] [] (p0 ++ p1))
    (h0 : DataW.Trod enc Try.prog W 0 (fun _ => true) true t0 v0 d0 p0) (h1 : DataW.Trod enc Try.prog W 0 (fun _ => true) true t1 v1 d1 p1)
    (r0 : Try.prog.readableRec t0 = true) (r1 : Try.prog.readableRec t1 = true) (n0 : t0 < Try.prog.types.size) (n1 : t1 < Try.prog.types.size) (hb : Below W.heap.size W W') :
    s.post enc Try.prog f false true false false W #[v0, v1] (.bool true) W' := by
  have hlt := fun x hx => hW.lt (p := x) hx
  refine ⟨[d0, d1], [], p0 ++ p1, [], p0 ++ p1, [], hW, ?_, ?_, ?_, hb.frame _, fun h => by cases h⟩
  · rw [List.append_nil, hfn, hrt]
    exact trodAll_mk1 (shut_bool Try.underlying4 true)
  · rw [List.append_nil, hfn, hfp]
    exact trodAll_mk2 (reads_on r0 n0 h0 hb (fun x hx => hlt x (List.mem_append_left _ hx))) (reads_on r1 n1 h1 hb (fun x hx => hlt x (List.mem_append_right _ hx)))
  · rw [List.append_nil, hfn, hv]
    rfl
end
end Go.Proofs.Ytmnlgeglmkdecaa
