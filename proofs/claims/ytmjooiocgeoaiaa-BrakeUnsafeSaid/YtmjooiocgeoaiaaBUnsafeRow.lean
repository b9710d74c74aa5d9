
/-
  BrakeUnsafe returns true for every track, every system and all squares: the first post from whose square no stop is reached, or none, or the errors, are as the reference says. Conditions: none.
-/
import Derived.Test.YtmjooiocgeoaiaaBUl
import Derived.Test.YtmjooiocgeoaiaaBRow6
namespace Go.Proofs.Ytmjooiocgeoaiaa
open Go.ChangeShapes Go.WideShapes Go.ChangeAt Go.RowKit Go.Joins Go.Deep

set_option maxRecDepth 100000 in
theorem brakeUnsafe_lifted (os : Os) (started : os.Started) (H : Type) (enc : TypeId × Value → H) :
    ReturnsInHanded {} Try.checked os 5 .any (Rows.brakeUnsafeSpec.pre6 enc Try.prog Try.f5 Rows.brakeUnsafeRow.domain false) (Rows.brakeUnsafeSpec.post enc Try.prog Try.f5 false true false false) := by
  refine returnsInHanded_of_change (C := Try.checked) own_try started (by kernel_rfl) Try.func5
    (ChangeSpec.witness6 (enc := enc) (C := Try.checked) false ⟨#[], #[.agg #[.string ⟨#[]⟩, .slice none 0 0], .agg #[.int .i64 0, .int .i64 0, .int .i64 0], .slice none 0 0], []⟩ 12 (by kernel_rfl) (by kernel_rfl) (by kernel_rfl) (by kernel_rfl)) ?_
  intro W base args ds gs before hval0 hW hcnd _
  have hval : ∀ (j : Nat) t v, Try.f5.params[j]? = some t → args[j]? = some v → Value.okWide Try.prog W .any base t v := hval0
  have hW' := hW
  obtain ⟨p, q, hA0, hV, rfl, hfz, hnd⟩ := hW
  have hA : DataW.TrodAll enc Try.prog W 0 (fun _ => true) true Try.f5.params.toList args.toList ds p := hA0
  rw [Try.params5] at hA hval
  obtain ⟨v0, v1, v2, d0, d1, d2, p0, p1, p2, rfl, rfl, rfl, h0, h1, h2⟩ := trodAll_three hA
  obtain ⟨rfl, rfl⟩ := trodVars_none hV
  have k0 := h0
  have k1 := h1
  have k2 := h2
  obtain ⟨s, ps, A, c, rfl, hs, hg, hl, hoP, hL⟩ := open_btrack (hval 0 24 v0 rfl rfl) h0
  obtain ⟨b, rfl⟩ := open_bsys (hval 1 26 v1 rfl rfl) h1
  obtain ⟨l, B, d, rfl, hgr, hll, hLB⟩ := open_ints6 (hval 2 31 v2 rfl rfl) h2
  clear hA0 hval0 hA hval
  simp only [List.append_nil] at hW'
  refine (BrakeUnsafe_any s hs ps A c hg hl b l B d hgr hll W hL hLB).mono fun e W' ⟨he, hb⟩ => ?_
  subst he
  exact ⟨_, rfl, law_three rfl rfl rfl rfl (by first | exact hW' | (rw [List.append_nil]; exact hW') | (rw [List.append_nil] at hW'; exact hW') | (rw [← List.append_assoc]; exact hW') | (rw [List.append_nil, ← List.append_assoc]; exact hW') | (rw [List.append_nil, List.append_assoc] at *; exact hW') | (rw [List.append_nil, List.append_assoc]; exact hW') | (rw [List.append_assoc]; exact hW')) k0 k1 k2 (by kernel_rfl) (by kernel_rfl) (by kernel_rfl) (of_decide_eq_true (by kernel_rfl)) (of_decide_eq_true (by kernel_rfl)) (of_decide_eq_true (by kernel_rfl)) hb⟩

theorem brakeUnsafe_holds : Rows.BrakeUnsafeSaid :=
  OpenClaim.holds_of_wide 5 Try.f5 rfl rfl rfl rfl rfl rfl rfl ⟨rfl, rfl, rfl, rfl, rfl⟩ rfl rfl rfl rfl rfl (by kernel_rfl) Try.func5 (by kernel_rfl)
    (of_decide_eq_true (by kernel_rfl)) (by unfold Func.isWrapper; first | (rw [if_pos (by decide +kernel)]; kernel_rfl) | (rw [if_neg (by decide +kernel)]; exact ⟨rfl, rfl⟩))
    (fun os started H enc _ => brakeUnsafe_lifted os started H enc)
end Go.Proofs.Ytmjooiocgeoaiaa
