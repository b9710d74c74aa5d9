
/-
  BrakeStops returns true for every track, every system and every state: all stops that a train reaches, and the greatest square at a post from which one is reached, or the errors, are as the reference says; a state that reaches a stop has no greater square; with the greatest square a stop is reached. Conditions: none.
-/
import Derived.Test.YtmjooiocgeoaiaaBTl
import Derived.Test.YtmjooiocgeoaiaaBRow6
namespace Go.Proofs.Ytmjooiocgeoaiaa
open Go.ChangeShapes Go.WideShapes Go.ChangeAt Go.RowKit Go.Joins Go.Deep

set_option maxRecDepth 100000 in
theorem brakeStops_lifted (os : Os) (started : os.Started) (H : Type) (enc : TypeId × Value → H) :
    ReturnsInHanded {} Try.checked os 3 .any (Rows.brakeStopsSpec.pre6 enc Try.prog Try.f3 Rows.brakeStopsRow.domain false) (Rows.brakeStopsSpec.post enc Try.prog Try.f3 false true false false) := by
  refine returnsInHanded_of_change (C := Try.checked) own_try started (by kernel_rfl) Try.func3
    (ChangeSpec.witness6 (enc := enc) (C := Try.checked) false ⟨#[], #[.agg #[.string ⟨#[]⟩, .slice none 0 0], .agg #[.int .i64 0, .int .i64 0, .int .i64 0], .agg #[.int .i64 0, .int .i64 0]], []⟩ 12 (by kernel_rfl) (by kernel_rfl) (by kernel_rfl) (by kernel_rfl)) ?_
  intro W base args ds gs before hval0 hW hcnd _
  have hval : ∀ (j : Nat) t v, Try.f3.params[j]? = some t → args[j]? = some v → Value.okWide Try.prog W .any base t v := hval0
  have hW' := hW
  obtain ⟨p, q, hA0, hV, rfl, hfz, hnd⟩ := hW
  have hA : DataW.TrodAll enc Try.prog W 0 (fun _ => true) true Try.f3.params.toList args.toList ds p := hA0
  rw [Try.params3] at hA hval
  obtain ⟨v0, v1, v2, d0, d1, d2, p0, p1, p2, rfl, rfl, rfl, h0, h1, h2⟩ := trodAll_three hA
  obtain ⟨rfl, rfl⟩ := trodVars_none hV
  have k0 := h0
  have k1 := h1
  have k2 := h2
  obtain ⟨s, ps, A, c, rfl, hs, hg, hl, hoP, hL⟩ := open_btrack (hval 0 24 v0 rfl rfl) h0
  obtain ⟨b, rfl⟩ := open_bsys (hval 1 26 v1 rfl rfl) h1
  obtain ⟨p, sq, rfl, ip, iq⟩ := open_run6 (hval 2 28 v2 rfl rfl) h2
  clear hA0 hval0 hA hval
  simp only [List.append_nil] at hW'
  refine (BrakeStops_any s hs ps A c hg hl b p sq W hL).mono fun e W' ⟨he, hb⟩ => ?_
  subst he
  exact ⟨_, rfl, law_three rfl rfl rfl rfl (by first | exact hW' | (rw [List.append_nil]; exact hW') | (rw [List.append_nil] at hW'; exact hW') | (rw [← List.append_assoc]; exact hW') | (rw [List.append_nil, ← List.append_assoc]; exact hW') | (rw [List.append_nil, List.append_assoc] at *; exact hW') | (rw [List.append_nil, List.append_assoc]; exact hW') | (rw [List.append_assoc]; exact hW')) k0 k1 k2 (by kernel_rfl) (by kernel_rfl) (by kernel_rfl) (of_decide_eq_true (by kernel_rfl)) (of_decide_eq_true (by kernel_rfl)) (of_decide_eq_true (by kernel_rfl)) hb⟩

theorem brakeStops_holds : Rows.BrakeStopsSaid :=
  OpenClaim.holds_of_wide 3 Try.f3 rfl rfl rfl rfl rfl rfl rfl ⟨rfl, rfl, rfl, rfl, rfl⟩ rfl rfl rfl rfl rfl (by kernel_rfl) Try.func3 (by kernel_rfl)
    (of_decide_eq_true (by kernel_rfl)) (by unfold Func.isWrapper; first | (rw [if_pos (by decide +kernel)]; kernel_rfl) | (rw [if_neg (by decide +kernel)]; exact ⟨rfl, rfl⟩))
    (fun os started H enc _ => brakeStops_lifted os started H enc)
end Go.Proofs.Ytmjooiocgeoaiaa
