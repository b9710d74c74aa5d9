/-
  LineSurveys returns true for every line and every survey: surveyed and warmed lines, or the errors, are as the reference says; a survey makes no Off wider. Conditions: none.
-/
import Derived.Test.YtmnlgeglmkdecaaSurvLa
import Derived.Test.YtmnlgeglmkdecaaSurvLb
import Derived.Test.YtmnlgeglmkdecaaSurvLc
import Derived.Test.YtmnlgeglmkdecaaSurvLd
import Derived.Test.YtmnlgeglmkdecaaRowKit
namespace Go.Proofs.Ytmnlgeglmkdecaa
open Go.ChangeShapes Go.WideShapes Go.ChangeAt Go.RowKit Go.Joins

theorem withJ_len {L : Ll} {js : List Lj} (h : js.length = L.js.length) : (withJ L js).js.length = L.js.length := h
/-- A joint that was found keeps an Off within the one that it had. -/
theorem survJ_in {flo fhi : Int} {j : Lj} (hc : max flo (j.x + j.lo) ≤ min fhi (j.x + j.hi)) : j.lo ≤ (survJ flo fhi j).lo ∧ (survJ flo fhi j).lo ≤ (survJ flo fhi j).hi ∧ (survJ flo fhi j).hi ≤ j.hi := by
  unfold survJ
  refine ⟨?_, ?_, ?_⟩
  · show j.lo ≤ max flo (j.x + j.lo) - j.x; omega
  · show max flo (j.x + j.lo) - j.x ≤ min fhi (j.x + j.hi) - j.x; omega
  · show min fhi (j.x + j.hi) - j.x ≤ j.hi; omega

set_option maxHeartbeats 8000000 in
set_option maxRecDepth 100000 in
theorem LineSurveys_any (L : Ll) (H : Hds) (hH : HdsOk H) (n1 : L.name.size ≤ maxLen) (n2 : L.js.length ≤ maxLen) (n3 : L.bs.length ≤ maxLen) (n4 : L.ss.length ≤ maxLen) (n5 : ∀ s ∈ L.ss, s.across.length ≤ maxLen ∧ s.name.size ≤ maxLen)
    (oj : ∀ j ∈ L.js, j.ok) (ob : ∀ b ∈ L.bs, b.ok) (os : ∀ s ∈ L.ss, s.ok) (jn flo fhi by_ : Int) (w : World) (hA : LnAt w w.heap.size L H) :
    Calls Try.prog 13 #[(.agg #[.string L.name, .slice H.j.A L.js.length H.j.c, .slice H.b.A L.bs.length H.b.c, .slice H.s.A L.ss.length H.s.c]), .agg #[.int .i64 jn, .int .i64 flo, .int .i64 fhi, .int .i64 by_]] w fun e w' => e = .returned (.bool true) ∧ Below w.heap.size w w' := by
  cases hf : fewL L with
  | false =>
    have S0 := Lib.hid (SL.start (jn := jn) (flo := flo) (fhi := fhi) (by_ := by_) hA)
    have HF := Lib.hid (fun w hA => Few_any L H n1 n2 n3 n4 n5 w hA)
    rw [hf] at HF
    clear hA n1 n2 n3 n4 n5 oj ob os hH hf
    go_enter Try.func13, Try.ntmps13
    go_wp2_with fail
    refine (awake_any _).mono ?_
    rintro e w1 ⟨rfl, hb1⟩
    have S1 := Lib.hid (SL.from hb1 S0.out)
    clear hb1 S0
    obtain ⟨c0, c1, c2, c3⟩ := S1.out.box.four
    go_wp2_with fail
    refine (HF.out _ S1.out.lnW).mono ?_
    rintro e w2 ⟨rfl, hb2⟩
    have S2 := Lib.hid (SL.from hb2 S1.out)
    clear hb2 S1 c0 c1 c2 c3
    go_wp2_with fail
    go_ret
    exact ⟨rfl, S2.out.bl⟩
  | true =>
    have hL : L.ok := few_ok hf oj ob os
    have hsm := hL.small
    have hF : ∀ w : World, LnAt w w.heap.size L H → Calls Try.prog 16 #[(.agg #[.string L.name, .slice H.j.A L.js.length H.j.c, .slice H.b.A L.bs.length H.b.c, .slice H.s.A L.ss.length H.s.c])] w fun e w' => e = .returned (.bool true) ∧ Below w.heap.size w w' := fun w hA => by
      have h := Few_any L H n1 n2 n3 n4 n5 w hA
      rw [hf] at h
      exact h
    by_cases he : (ckLine L).2 = 0
    · have hr := right_of he
      have hck := ck_right he
      cases hy : inB by_ 0 100 with
      | false =>
        cases hj : inB jn 0 (L.js.length - 1) with
        | false => exact LineSurveys_out_bad hL hH hF zSmall zSmall (fun G u hG _ => (Surveyed_missing hr hck G hL jn flo fhi hj u hG).mono fun e u' ⟨h1, h2⟩ => ⟨zG, h1, zOwn _ 0, h2⟩) (fun G u hG _ => (Warmed_out hr hck G hL hy u hG).mono fun e u' ⟨h1, h2⟩ => ⟨zG, h1, zOwn _ 0, h2⟩) hck hy hj w hA
        | true =>
          obtain ⟨h0, h1⟩ := inB_iff.1 hj
          obtain ⟨k, hk0⟩ := Int.eq_ofNat_of_zero_le h0
          have hkl : k < L.js.length := by omega
          obtain ⟨j, hk⟩ : ∃ j, L.js[k]? = some j := ⟨_, List.getElem?_eq_getElem hkl⟩
          by_cases ho : fhi < flo
          · exact LineSurveys_out_err hL hH hF (da := 9) zSmall zSmall (fun G u hG _ => (Surveyed_order hr hck G hL jn flo fhi hj ho u hG).mono fun e u' ⟨h1, h2⟩ => ⟨zG, h1, zOwn _ 0, h2⟩) (fun G u hG _ => (Warmed_out hr hck G hL hy u hG).mono fun e u' ⟨h1, h2⟩ => ⟨zG, h1, zOwn _ 0, h2⟩) hck hy hj (fun u hu => (refSurveyed_order H jn flo fhi ho u hu).mono fun e u' ⟨h1, h2⟩ => ⟨zG, h1, zOwn _ 0, h2⟩) (by decide) w hA
          · by_cases hc : max flo (j.x + j.lo) ≤ min fhi (j.x + j.hi)
            · have hsl : (L.js.set k (survJ flo fhi j)).length = L.js.length := List.length_set
              exact LineSurveys_out_ok hL hH hF (small_with hsm hsl) zSmall (fun G u hG hO => (Surveyed_good hr hck G hL hO jn flo fhi hk0 hk hj (by omega) hc u hG).mono fun e u' ⟨GA, h1, h2, h3⟩ => ⟨GA, by rw [withJ_len hsl]; exact h1, h2, h3⟩) (fun G u hG _ => (Warmed_out hr hck G hL hy u hG).mono fun e u' ⟨h1, h2⟩ => ⟨zG, h1, zOwn _ 0, h2⟩) hck hy hj
                (fun u hu => (refSurveyed_good hr H hL hH jn flo fhi hk0 hk (by omega) hc u hu).mono fun e u' ⟨GW, h1, h2, h3⟩ => ⟨GW, by rw [withJ_len hsl]; exact h1, h2, h3⟩) hk0 hk (by show (L.js.set k (survJ flo fhi j))[k]? = _; exact List.getElem?_set_self hkl) (survJ_in hc) w hA
            · exact LineSurveys_out_err hL hH hF (da := 13) zSmall zSmall (fun G u hG _ => (Surveyed_clash hr hck G hL jn flo fhi hk0 hk hj (by omega) (by omega) u hG).mono fun e u' ⟨h1, h2⟩ => ⟨zG, h1, zOwn _ 0, h2⟩) (fun G u hG _ => (Warmed_out hr hck G hL hy u hG).mono fun e u' ⟨h1, h2⟩ => ⟨zG, h1, zOwn _ 0, h2⟩) hck hy hj (fun u hu => (refSurveyed_clash hr H hL hH jn flo fhi hk0 hk (by omega) (by omega) u hu).mono fun e u' ⟨h1, h2⟩ => ⟨zG, h1, zOwn _ 0, h2⟩) (by decide) w hA
      | true =>
        have hwl := warmS_len by_ L.js L.js.length
        have hyb := inB_iff.1 hy
        have hsb := small_with hsm hwl
        cases hj : inB jn 0 (L.js.length - 1) with
        | false => exact LineSurveys_in_bad hL hH hF zSmall hsb (fun G u hG _ => (Surveyed_missing hr hck G hL jn flo fhi hj u hG).mono fun e u' ⟨h1, h2⟩ => ⟨zG, h1, zOwn _ 0, h2⟩) (fun G u hG hO => (Warmed_good hr hck G hL hO hy u hG).mono fun e u' ⟨GA, h1, h2, h3⟩ => ⟨GA, by rw [withJ_len hwl]; exact h1, h2, h3⟩) hck hy (fun u hu => (refWarmed_any hr H hL hH by_ hyb u hu).mono fun e u' ⟨GW, h1, h2, h3⟩ => ⟨GW, by rw [withJ_len hwl]; exact h1, h2, h3⟩) hj w hA
        | true =>
          obtain ⟨h0, h1⟩ := inB_iff.1 hj
          obtain ⟨k, hk0⟩ := Int.eq_ofNat_of_zero_le h0
          have hkl : k < L.js.length := by omega
          obtain ⟨j, hk⟩ : ∃ j, L.js[k]? = some j := ⟨_, List.getElem?_eq_getElem hkl⟩
          by_cases ho : fhi < flo
          · exact LineSurveys_in_err hL hH hF (da := 9) zSmall hsb (fun G u hG _ => (Surveyed_order hr hck G hL jn flo fhi hj ho u hG).mono fun e u' ⟨h1, h2⟩ => ⟨zG, h1, zOwn _ 0, h2⟩) (fun G u hG hO => (Warmed_good hr hck G hL hO hy u hG).mono fun e u' ⟨GA, h1, h2, h3⟩ => ⟨GA, by rw [withJ_len hwl]; exact h1, h2, h3⟩) hck hy (fun u hu => (refWarmed_any hr H hL hH by_ hyb u hu).mono fun e u' ⟨GW, h1, h2, h3⟩ => ⟨GW, by rw [withJ_len hwl]; exact h1, h2, h3⟩) hj (fun u hu => (refSurveyed_order H jn flo fhi ho u hu).mono fun e u' ⟨h1, h2⟩ => ⟨zG, h1, zOwn _ 0, h2⟩) (by decide) w hA
          · by_cases hc : max flo (j.x + j.lo) ≤ min fhi (j.x + j.hi)
            · have hsl : (L.js.set k (survJ flo fhi j)).length = L.js.length := List.length_set
              exact LineSurveys_in_ok hL hH hF (small_with hsm hsl) hsb (fun G u hG hO => (Surveyed_good hr hck G hL hO jn flo fhi hk0 hk hj (by omega) hc u hG).mono fun e u' ⟨GA, h1, h2, h3⟩ => ⟨GA, by rw [withJ_len hsl]; exact h1, h2, h3⟩) (fun G u hG hO => (Warmed_good hr hck G hL hO hy u hG).mono fun e u' ⟨GA, h1, h2, h3⟩ => ⟨GA, by rw [withJ_len hwl]; exact h1, h2, h3⟩) hck hy (fun u hu => (refWarmed_any hr H hL hH by_ hyb u hu).mono fun e u' ⟨GW, h1, h2, h3⟩ => ⟨GW, by rw [withJ_len hwl]; exact h1, h2, h3⟩) hj
                (fun u hu => (refSurveyed_good hr H hL hH jn flo fhi hk0 hk (by omega) hc u hu).mono fun e u' ⟨GW, h1, h2, h3⟩ => ⟨GW, by rw [withJ_len hsl]; exact h1, h2, h3⟩) hk0 hk (by show (L.js.set k (survJ flo fhi j))[k]? = _; exact List.getElem?_set_self hkl) (survJ_in hc) w hA
            · exact LineSurveys_in_err hL hH hF (da := 13) zSmall hsb (fun G u hG _ => (Surveyed_clash hr hck G hL jn flo fhi hk0 hk hj (by omega) (by omega) u hG).mono fun e u' ⟨h1, h2⟩ => ⟨zG, h1, zOwn _ 0, h2⟩) (fun G u hG hO => (Warmed_good hr hck G hL hO hy u hG).mono fun e u' ⟨GA, h1, h2, h3⟩ => ⟨GA, by rw [withJ_len hwl]; exact h1, h2, h3⟩) hck hy (fun u hu => (refWarmed_any hr H hL hH by_ hyb u hu).mono fun e u' ⟨GW, h1, h2, h3⟩ => ⟨GW, by rw [withJ_len hwl]; exact h1, h2, h3⟩) hj (fun u hu => (refSurveyed_clash hr H hL hH jn flo fhi hk0 hk (by omega) (by omega) u hu).mono fun e u' ⟨h1, h2⟩ => ⟨zG, h1, zOwn _ 0, h2⟩) (by decide) w hA
    · refine LineSurveys_line hL hH hF zSmall zSmall (fun G u hG _ => ?_) (fun G u hG _ => ?_) (m1 := (ckLine L).1.1) (m2 := (ckLine L).1.2) rfl he w hA
      · exact (Surveyed_err (m1 := (ckLine L).1.1) (m2 := (ckLine L).1.2) rfl he G hL jn flo fhi u hG).mono fun e u' ⟨h1, h2⟩ => ⟨zG, h1, zOwn _ 0, h2⟩
      · exact (Warmed_err (m1 := (ckLine L).1.1) (m2 := (ckLine L).1.2) rfl he G hL by_ u hG).mono fun e u' ⟨h1, h2⟩ => ⟨zG, h1, zOwn _ 0, h2⟩

section
variable {H : Type} {enc : TypeId × Value → H} {W : World} {base : Nat}
theorem cells_survey : Try.prog.cellsOf 101 = 4 := by kernel_rfl
set_option maxRecDepth 100000 in
/-- A survey, opened. -/
theorem open_survey {r : Reach} {b0 : Nat} {v : Value} {d : DataW H} {p : List MemPlace} (hv : Value.okWide Try.prog W r b0 101 v) (h : DataW.Trod enc Try.prog W base (fun _ => true) true 101 v d p) :
    ∃ a b c e : Int, v = .agg #[.int .i64 a, .int .i64 b, .int .i64 c, .int .i64 e] := by
  obtain ⟨cs, rfl, hsz⟩ := okWide_struct Try.underlying101 hv
  obtain ⟨c0, c1, c2, c3, rfl⟩ := array4 (hsz.trans cells_survey)
  obtain ⟨fuel, h⟩ := h
  obtain ⟨xs, n, _, _, hl, hlen, hf⟩ := DataW.trod_struct Try.underlying101 h
  match xs, hlen with
  | [y0, y1, y2], _ =>
    have h0 : DataW.trod enc Try.prog W base (fun _ => true) true n 3 (([c0, c1, c2, c3].drop 0).take (Try.prog.cellsOf 3)) = some y0 := hf 0 _ rfl
    rw [cells_int] at h0
    have h1 : DataW.trod enc Try.prog W base (fun _ => true) true n 54 (([c0, c1, c2, c3].drop 1).take (Try.prog.cellsOf 54)) = some y1 := hf 1 _ rfl
    rw [cells_range] at h1
    have h2 : DataW.trod enc Try.prog W base (fun _ => true) true n 3 (([c0, c1, c2, c3].drop 3).take (Try.prog.cellsOf 3)) = some y2 := hf 2 _ rfl
    rw [cells_int] at h2
    obtain ⟨a, rfl, _⟩ := trod_int1 rfl h0
    obtain ⟨b, c, rfl, rfl, _, _⟩ := trod_range rfl h1
    obtain ⟨e, rfl, _⟩ := trod_int1 rfl h2
    exact ⟨a, b, c, e, rfl⟩
end

set_option maxRecDepth 100000 in
theorem lineSurveys_lifted (os : Os) (started : os.Started) (H : Type) (enc : TypeId × Value → H) :
    ReturnsInHanded {} Try.checked os 13 .any (Rows.lineSurveysSpec.pre6 enc Try.prog Try.f13 Rows.lineSurveysRow.domain false) (Rows.lineSurveysSpec.post enc Try.prog Try.f13 false true false false) := by
  refine returnsInHanded_of_change (C := Try.checked) own_try started (by kernel_rfl) Try.func13
    (ChangeSpec.witness6 (enc := enc) (C := Try.checked) false ⟨#[], #[.agg #[.string ⟨#[]⟩, .slice none 0 0, .slice none 0 0, .slice none 0 0], .agg #[.int .i64 0, .int .i64 0, .int .i64 0, .int .i64 0]], []⟩ 12 (by kernel_rfl) (by kernel_rfl) (by kernel_rfl) (by kernel_rfl)) ?_
  intro W base args ds gs before hval0 hW hcnd _
  have hval : ∀ (j : Nat) t v, Try.f13.params[j]? = some t → args[j]? = some v → Value.okWide Try.prog W .any base t v := hval0
  have hW' := hW
  obtain ⟨p, q, hA0, hV, rfl, hfz, hnd⟩ := hW
  have hA : DataW.TrodAll enc Try.prog W 0 (fun _ => true) true Try.f13.params.toList args.toList ds p := hA0
  rw [Try.params13] at hA hval
  obtain ⟨v0, v1, d0, d1, p0, p1, rfl, rfl, rfl, h0, h1⟩ := trodAll_two hA
  obtain ⟨rfl, rfl⟩ := trodVars_none hV
  have k0 := h0
  have k1 := h1
  obtain ⟨L, Hd, rfl, hL, hH, n1, n2, n3, n4, n5, oj, ob, os'⟩ := open_line (hval 0 26 v0 rfl rfl) h0
  obtain ⟨ja, jb, jc', jd, rfl⟩ := open_survey (hval 1 101 v1 rfl rfl) h1
  clear hA0 hval0 hA hval
  simp only [List.append_nil] at hW'
  refine (LineSurveys_any L Hd hH n1 n2 n3 n4 n5 oj ob os' ja jb jc' jd W hL).mono fun e W' ⟨he, hb⟩ => ?_
  subst he
  exact ⟨_, rfl, law_two rfl rfl rfl rfl (by exact hW') k0 k1 (by kernel_rfl) (by kernel_rfl) (of_decide_eq_true (by kernel_rfl)) (of_decide_eq_true (by kernel_rfl)) hb⟩

theorem lineSurveys_holds : Rows.LineSurveysSaid :=
  OpenClaim.holds_of_wide 13 Try.f13 rfl rfl rfl rfl rfl rfl rfl ⟨rfl, rfl, rfl, rfl, rfl⟩ rfl rfl rfl rfl rfl (by kernel_rfl) Try.func13 (by kernel_rfl)
    (of_decide_eq_true (by kernel_rfl)) (by unfold Func.isWrapper; first | (rw [if_pos (by decide +kernel)]; kernel_rfl) | (rw [if_neg (by decide +kernel)]; exact ⟨rfl, rfl⟩))
    (fun os started H enc _ => lineSurveys_lifted os started H enc)
end Go.Proofs.Ytmnlgeglmkdecaa
