
/-
  TopBrakeTogether returns true for any two tracks, every system, state, stop and all squares: what is behind a joint is as on the second track alone, and times add up. Conditions: none.
-/
import Derived.Test.YtaghpemdcmjchaaTgW
import Derived.Test.YtaghpemdcmjchaaBRow7
namespace Go.Proofs.Ytaghpemdcmjchaa
open Go.ChangeShapes Go.WideShapes Go.ChangeAt Go.RowKit Go.Joins Go.Deep

set_option maxRecDepth 100000 in
theorem topBrakeTogether_lifted (os : Os) (started : os.Started) (H : Type) (enc : TypeId × Value → H) :
    ReturnsInHanded {} Try.checked os 3 .any (Rows.topBrakeTogetherSpec.pre6 enc Try.prog Try.f3 Rows.topBrakeTogetherRow.domain false) (Rows.topBrakeTogetherSpec.post enc Try.prog Try.f3 false true false false) := by
  refine returnsInHanded_of_change (C := Try.checked) own_try started (by kernel_rfl) Try.func3
    (ChangeSpec.witness6 (enc := enc) (C := Try.checked) false ⟨#[], #[.agg #[.string ⟨#[]⟩, .slice none 0 0], .agg #[.string ⟨#[]⟩, .slice none 0 0], .agg #[.int .i64 0, .int .i64 0, .int .i64 0, .int .i64 0, .int .i64 0, .int .i64 0, .slice none 0 0]], []⟩ 12 (by kernel_rfl) (by kernel_rfl) (by kernel_rfl) (by kernel_rfl)) ?_
  intro W base args ds gs before hval0 hW hcnd _
  have hval : ∀ (j : Nat) t v, Try.f3.params[j]? = some t → args[j]? = some v → Value.okWide Try.prog W .any base t v := hval0
  have hW' := hW
  obtain ⟨p, q, hA0, hV, rfl, hfz, hnd⟩ := hW
  have hA : DataW.TrodAll enc Try.prog W 0 (fun _ => true) true Try.f3.params.toList args.toList ds p := hA0
  rw [Try.params3] at hA hval
  obtain ⟨v0, v1, v2, d0, d1, d2, p0, p1, p2, rfl, rfl, rfl, h0, h1, h2⟩ := trodAll_three hA
  obtain ⟨rfl, rfl⟩ := trodVars_none hV
  have k0 := h0
  have k1 := h1
  have k2 := h2
  obtain ⟨s, ps, A, c, rfl, hs, hg, hl, hoP, hL⟩ := open_btrack (hval 0 24 v0 rfl rfl) h0
  obtain ⟨s2, ps2, A2, c2, rfl, hs2, hg2, hl2, hoP2, hL2⟩ := open_btrack (hval 1 24 v1 rfl rfl) h1
  obtain ⟨b, p, sq, stop, l, R, cr, rfl, hgr, hrc, hrm, hLR⟩ := open_joint7 (hval 2 31 v2 rfl rfl) h2
  clear hA0 hval0 hA hval
  simp only [List.append_nil] at hW'
  refine (TopBrakeTogether_any s hs ps A c hg hl s2 hs2 ps2 A2 c2 hg2 hl2 b l l.length rfl R cr hgr hrc hrm p sq stop W hL hL2 hLR).mono fun e W' ⟨he, hb⟩ => ?_
  subst he
  exact ⟨_, rfl, law_three rfl rfl rfl rfl (by first | exact hW' | (rw [List.append_nil]; exact hW') | (rw [List.append_nil] at hW'; exact hW') | (rw [← List.append_assoc]; exact hW') | (rw [List.append_nil, ← List.append_assoc]; exact hW') | (rw [List.append_nil, List.append_assoc] at *; exact hW') | (rw [List.append_nil, List.append_assoc]; exact hW') | (rw [List.append_assoc]; exact hW')) k0 k1 k2 (by kernel_rfl) (by kernel_rfl) (by kernel_rfl) (of_decide_eq_true (by kernel_rfl)) (of_decide_eq_true (by kernel_rfl)) (of_decide_eq_true (by kernel_rfl)) hb⟩

theorem topBrakeTogether_holds : Rows.TopBrakeTogetherSaid :=
  OpenClaim.holds_of_wide 3 Try.f3 rfl rfl rfl rfl rfl rfl rfl ⟨rfl, rfl, rfl, rfl, rfl⟩ rfl rfl rfl rfl rfl (by kernel_rfl) Try.func3 (by kernel_rfl)
    (of_decide_eq_true (by kernel_rfl)) (by unfold Func.isWrapper; first | (rw [if_pos (by decide +kernel)]; kernel_rfl) | (rw [if_neg (by decide +kernel)]; exact ⟨rfl, rfl⟩))
    (fun os started H enc _ => topBrakeTogether_lifted os started H enc)
end Go.Proofs.Ytaghpemdcmjchaa
