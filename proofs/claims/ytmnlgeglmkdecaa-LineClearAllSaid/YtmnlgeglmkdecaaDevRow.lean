/-
  LineDeviations returns true for every line, every vehicle and every pose: which vehicles are right, and the deviation at a joint beneath a pose, or the errors, are as the reference says. Conditions: none.
-/
import Derived.Test.YtmnlgeglmkdecaaDevL
import Derived.Test.YtmnlgeglmkdecaaRowKit
import Derived.WideKeyPair
namespace Go.Proofs.Ytmnlgeglmkdecaa
open Go.ChangeShapes Go.WideShapes Go.ChangeAt Go.RowKit Go.Joins

section
variable {H : Type} {enc : TypeId × Value → H} {W W' : World}
/-- A law of three parameters that answered true. -/
theorem law_three {f : Func} {s : ChangeSpec} {t0 t1 t2 : TypeId} {v0 v1 v2 : Value} {d0 d1 d2 : DataW H} {p0 p1 p2 : List MemPlace} (hv : s.vars = []) (hfp : f.params.toList = [t0, t1, t2]) (hrt : f.resultTypes = #[4])
    (hfn : s.fn H [d0, d1, d2] = { results := [.lit (.bool true)], args := [d0, d1, d2] })
    (hW : DataW.Whole enc Try.prog f.params.toList s.vars false W [v0, v1, v2] [d0, d1, d2] [] (p0 ++ (p1 ++ p2)))
    (h0 : DataW.Trod enc Try.prog W 0 (fun _ => true) true t0 v0 d0 p0) (h1 : DataW.Trod enc Try.prog W 0 (fun _ => true) true t1 v1 d1 p1) (h2 : DataW.Trod enc Try.prog W 0 (fun _ => true) true t2 v2 d2 p2)
    (r0 : Try.prog.readableRec t0 = true) (r1 : Try.prog.readableRec t1 = true) (r2 : Try.prog.readableRec t2 = true) (n0 : t0 < Try.prog.types.size) (n1 : t1 < Try.prog.types.size) (n2 : t2 < Try.prog.types.size) (hb : Below W.heap.size W W') :
    s.post enc Try.prog f false true false false W #[v0, v1, v2] (.bool true) W' := by
  have hlt := fun x hx => hW.lt (p := x) hx
  refine ⟨[d0, d1, d2], [], p0 ++ (p1 ++ p2), [], p0 ++ (p1 ++ p2), [], hW, ?_, ?_, ?_, hb.frame _, fun h => by cases h⟩
  · rw [List.append_nil, hfn, hrt]
    exact trodAll_mk1 (shut_bool Try.underlying4 true)
  · rw [List.append_nil, hfn, hfp]
    exact trodAll_mk3 (reads_on r0 n0 h0 hb (fun x hx => hlt x (List.mem_append_left _ hx))) (reads_on r1 n1 h1 hb (fun x hx => hlt x (List.mem_append_right _ (List.mem_append_left _ hx)))) (reads_on r2 n2 h2 hb (fun x hx => hlt x (List.mem_append_right _ (List.mem_append_right _ hx))))
  · rw [List.append_nil, hfn, hv]
    rfl
set_option maxRecDepth 100000 in
/-- A vehicle, opened. -/
theorem open_veh {base : Nat} {r : Reach} {b0 : Nat} {v : Value} {d : DataW H} {p : List MemPlace} (hv : Value.okWide Try.prog W r b0 77 v) (h : DataW.Trod enc Try.prog W base (fun _ => true) true 77 v d p) :
    ∃ u : Lv, v = .agg #[.int .i64 u.len, .int .i64 u.clear, .int .i64 u.step] := by
  obtain ⟨v0, v1, v2, y0, y1, y2, n, rfl, _, _, h0, h1, h2⟩ := open_agg3 Try.underlying77 (by kernel_rfl) (by kernel_rfl) hv h
  obtain ⟨a, rfl, _⟩ := trod_int1 rfl h0
  obtain ⟨b, rfl, _⟩ := trod_int1 rfl h1
  obtain ⟨c, rfl, _⟩ := trod_int1 rfl h2
  exact ⟨⟨a, b, c⟩, rfl⟩
theorem pair_key : Go.WideMaps.ArrKey Try.prog 78 3 2 := ⟨Try.underlying78, by kernel_rfl, by kernel_rfl, by kernel_rfl⟩
end

set_option maxRecDepth 100000 in
theorem lineDeviations_lifted (os : Os) (started : os.Started) (H : Type) (enc : TypeId × Value → H) :
    ReturnsInHanded {} Try.checked os 9 .any (Rows.lineDeviationsSpec.pre6 enc Try.prog Try.f9 Rows.lineDeviationsRow.domain false) (Rows.lineDeviationsSpec.post enc Try.prog Try.f9 false true false false) := by
  refine returnsInHanded_of_change (C := Try.checked) own_try started (by kernel_rfl) Try.func9
    (ChangeSpec.witness6 (enc := enc) (C := Try.checked) false ⟨#[], #[.agg #[.string ⟨#[]⟩, .slice none 0 0, .slice none 0 0, .slice none 0 0], .agg #[.int .i64 0, .int .i64 0, .int .i64 0], .agg #[.int .i64 0, .int .i64 0]], []⟩ 12 (by kernel_rfl) (by kernel_rfl) (by kernel_rfl) (by kernel_rfl)) ?_
  intro W base args ds gs before hval0 hW hcnd _
  have hval : ∀ (j : Nat) t v, Try.f9.params[j]? = some t → args[j]? = some v → Value.okWide Try.prog W .any base t v := hval0
  have hW' := hW
  obtain ⟨p, q, hA0, hV, rfl, hfz, hnd⟩ := hW
  have hA : DataW.TrodAll enc Try.prog W 0 (fun _ => true) true Try.f9.params.toList args.toList ds p := hA0
  rw [Try.params9] at hA hval
  obtain ⟨v0, v1, v2, d0, d1, d2, p0, p1, p2, rfl, rfl, rfl, h0, h1, h2⟩ := trodAll_three hA
  obtain ⟨rfl, rfl⟩ := trodVars_none hV
  have k0 := h0
  have k1 := h1
  have k2 := h2
  obtain ⟨L, Hd, rfl, hL, hH, n1, n2, n3, n4, n5, oj, ob, os'⟩ := open_line (hval 0 26 v0 rfl rfl) h0
  obtain ⟨u, rfl⟩ := open_veh (hval 1 77 v1 rfl rfl) h1
  obtain ⟨a, b, rfl, _, _, _, _⟩ := Go.WideMaps.open_pair pair_key Try.underlying3 (hval 2 78 v2 rfl rfl) h2
  clear hA0 hval0 hA hval
  simp only [List.append_nil] at hW'
  refine (LineDeviations_any L Hd hH n1 n2 n3 n4 n5 oj ob os' u a b W hL).mono fun e W' ⟨he, hb⟩ => ?_
  subst he
  exact ⟨_, rfl, law_three rfl rfl rfl rfl (by rw [List.append_nil, List.append_assoc] at *; exact hW') k0 k1 k2 (by kernel_rfl) (by kernel_rfl) (by kernel_rfl) (of_decide_eq_true (by kernel_rfl)) (of_decide_eq_true (by kernel_rfl)) (of_decide_eq_true (by kernel_rfl)) hb⟩

theorem lineDeviations_holds : Rows.LineDeviationsSaid :=
  OpenClaim.holds_of_wide 9 Try.f9 rfl rfl rfl rfl rfl rfl rfl ⟨rfl, rfl, rfl, rfl, rfl⟩ rfl rfl rfl rfl rfl (by kernel_rfl) Try.func9 (by kernel_rfl)
    (of_decide_eq_true (by kernel_rfl)) (by unfold Func.isWrapper; first | (rw [if_pos (by decide +kernel)]; kernel_rfl) | (rw [if_neg (by decide +kernel)]; exact ⟨rfl, rfl⟩))
    (fun os started H enc _ => lineDeviations_lifted os started H enc)
end Go.Proofs.Ytmnlgeglmkdecaa
