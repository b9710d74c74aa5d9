
/-
  StatorOrders: for every input that can be read the law returns true, and its arguments read behind the call as before; the table of the states' vectors is tied to the program's text. No conditions beyond the row's own.
-/
import Derived.Test.YtohldmmfnjfgmaaDoorTOrders
import Derived.Test.YtohldmmfnjfgmaaDoorTRow2
import Derived.Test.YtohldmmfnjfgmaaDoorTHrR
namespace Go.Proofs.YtohldmmfnjfgmaaDoor
open Go.ChangeShapes Go.WideShapes Go.ChangeAt Go.RowKit Go.Joins Go.Deep

set_option maxHeartbeats 2000000 in
set_option maxRecDepth 100000 in
theorem statorOrders_lifted (os : Os) (started : os.Started) (H : Type) (enc : TypeId × Value → H) :
    ReturnsInHanded {} Tryd.checked os 3 .any (fun w args => (Rows.statorOrdersSpec.pre enc Tryd.prog Tryd.f3 [] false w args ∧ laidMetH Tryd.prog [("guideway/stator.stateVectors", Rows.laid_guideway_stator_stateVectors)] w) ∧ sizedMet enc Tryd.prog Tryd.f3 (OpenSpec.ofChange Rows.statorOrdersSpec) false w args)
      (Rows.statorOrdersSpec.post enc Tryd.prog Tryd.f3 false true false false) := by
  refine returnsInHanded_of_change_and (C := Tryd.checked) (X := fun w _ => laidMetH Tryd.prog [("guideway/stator.stateVectors", Rows.laid_guideway_stator_stateVectors)] w) (fun _ _ _ hh h => h.of_heap hh) own_try started (by kernel_rfl) Tryd.func3
    (ChangeSpec.witness_shaped (enc := enc) (C := Tryd.checked) (os := os) (X := fun w _ => laidMetH Tryd.prog [("guideway/stator.stateVectors", Rows.laid_guideway_stator_stateVectors)] w) false (World.doorLaid Tryd.prog 400 os) #[.agg #[.int .i64 0, .int .i64 0, .int .i64 0, .int .i64 0, .int .i64 0, .int .i64 0], .agg #[.int .i64 0, .int .i64 0, .int .i64 0, .int .i64 0, .int .i64 0, .int .i64 0, .int .i64 0, .int .i64 0, .int .i64 0, .int .i64 0, .int .i64 0, .int .i64 0]] 12 rfl (World.shaped_of_RefB (by kernel_rfl) (by kernel_rfl)) (by kernel_rfl) (by kernel_rfl) (by kernel_rfl) (door_met os _)) ?_
  intro W base args ds gs before hval0 hW _ _ hL _
  have hval : ∀ (j : Nat) t v, Tryd.f3.params[j]? = some t → args[j]? = some v → Value.okWide Tryd.prog W .any base t v := hval0
  have hW' := hW
  obtain ⟨p, q, hA0, hV, rfl, hfz, hnd⟩ := hW
  have hA : DataW.TrodAll enc Tryd.prog W 0 (fun _ => true) true Tryd.f3.params.toList args.toList ds p := hA0
  rw [Tryd.params3] at hA hval
  obtain ⟨v0, v1, d0, d1, p0, p1, rfl, rfl, rfl, h0, h1⟩ := trodAll_two hA
  obtain ⟨rfl, rfl⟩ := trodVars_none hV
  have k0 := h0
  have k1 := h1
  obtain ⟨x0, hz0, rfl⟩ := open_a6 (hval 0 22 v0 rfl rfl) h0
  obtain ⟨y1, hy1, rfl⟩ := open_t6 (hval 1 25 v1 rfl rfl) h1
  have hT := tab_of_laid hL
  clear hA0 hval0 hA hval
  simp only [List.append_nil] at hW'
  refine (StatorOrders_any x0 hz0 y1 hy1 W hT).mono fun e W' ⟨he, hb⟩ => ?_
  subst he
  exact ⟨_, rfl, law_two rfl rfl rfl rfl (by first | exact hW' | (rw [List.append_nil]; exact hW') | (rw [List.append_nil] at hW'; exact hW') | (rw [← List.append_assoc]; exact hW') | (rw [List.append_nil, ← List.append_assoc]; exact hW')) k0 k1 (by kernel_rfl) (by kernel_rfl) (of_decide_eq_true (by kernel_rfl)) (of_decide_eq_true (by kernel_rfl)) hb⟩

theorem statorOrders_holds : Rows.StatorOrdersSaid :=
  OpenClaim.holds_of_wide 3 Tryd.f3 rfl rfl rfl rfl rfl rfl rfl ⟨rfl, rfl, rfl, rfl, rfl⟩ rfl rfl rfl rfl rfl (by kernel_rfl) Tryd.func3 (by kernel_rfl)
    (of_decide_eq_true (by kernel_rfl)) (by unfold Func.isWrapper; first | (rw [if_pos (by decide +kernel)]; kernel_rfl) | (rw [if_neg (by decide +kernel)]; exact ⟨rfl, rfl⟩))
    (fun os started H enc _ => statorOrders_lifted os started H enc)

theorem statorOrders_card : Rows.StatorOrdersCardSaid :=
  Claim7.holds_tied_plain_at .later [] [.data] true Rows.statorOrdersCard.stood.harness false
    statorOrders_holds (fun _ h => by cases h) (by kernel_rfl) (fun _ h => by cases h) statorOrders_row_tie rfl ⟨rfl, rfl⟩ (by kernel_rfl) rfl
    (fun f fn hf hfn => by
      obtain rfl : f = 3 := Option.some.inj ((show Tryd.prog.funcNamed "guideway/guidewaylaw03.StatorOrders" = some 3 by kernel_rfl).symm.trans hf) |>.symm
      obtain rfl : fn = Tryd.f3 := (Option.some.inj (Tryd.func3.symm.trans hfn)).symm
      exact ⟨by kernel_rfl, fun j t ht => by
        rw [Tryd.params3] at ht
        have hm : t ∈ [22, 25] := by simpa using Array.mem_of_getElem? ht
        have hall : ([22, 25].all fun u => !Tryd.prog.wantsStandIn u) = true := by kernel_rfl
        exact (show Tryd.prog.wantsStandIn t = false by simpa using List.all_eq_true.1 hall t hm)⟩)
    (by kernel_rfl)
end Go.Proofs.YtohldmmfnjfgmaaDoor
