/-
  LineClearAll returns true for every line, every vehicle and all parts: with narrower Off all deviations lie within those that there were, so that a clear pose stays clear, and one that is surely not clear stays so. Conditions: none.
-/
import Derived.Test.YtmnlgeglmkdecaaClrAll
import Derived.Test.YtmnlgeglmkdecaaRowKit
import Derived.Test.YtmnlgeglmkdecaaAwake
import Derived.Test.YtmnlgeglmkdecaaDevRow
namespace Go.Proofs.Ytmnlgeglmkdecaa
open Go.ChangeShapes Go.WideShapes Go.ChangeAt Go.RowKit Go.Joins Go.Deep

set_option maxHeartbeats 4000000 in
set_option maxRecDepth 100000 in
theorem LineClearAll_few {L : Ll} {H : Hds} {v : Lv} (hF : ∀ w : World, LnAt w w.heap.size L H → Calls Try.prog 16 #[(.agg #[.string L.name, .slice H.j.A L.js.length H.j.c, .slice H.b.A L.bs.length H.b.c, .slice H.s.A L.ss.length H.s.c])] w fun e w' => e = .returned (.bool false) ∧ Below w.heap.size w w') (gp : Hd) (bn : Nat) (w : World) (hA : LnAt w w.heap.size L H) :
    Calls Try.prog 11 #[(.agg #[.string L.name, .slice H.j.A L.js.length H.j.c, .slice H.b.A L.bs.length H.b.c, .slice H.s.A L.ss.length H.s.c]), (.agg #[.int .i64 v.len, .int .i64 v.clear, .int .i64 v.step]), .slice gp.A bn gp.c] w fun e w' => e = .returned (.bool true) ∧ Below w.heap.size w w' := by
  have S0 := Lib.hid (QV.start (v := v) hA)
  have HF := Lib.hid hF
  clear hF
  clear hA
  go_enter Try.func11, Try.ntmps11
  go_wp2_with fail
  refine (awake_any _).mono ?_
  rintro e w1 ⟨rfl, hb1⟩
  have S1 := Lib.hid (QV.from hb1 S0.out)
  clear hb1 S0
  obtain ⟨c0, c1, c2, c3⟩ := S1.out.box.four
  obtain ⟨v0, v1, v2⟩ := S1.out.veh.three
  go_wp2_with fail
  refine (HF.out _ S1.out.lnW).mono ?_
  rintro e w2 ⟨rfl, hb2⟩
  have S2 := Lib.hid (QV.from hb2 S1.out)
  clear hb2 S1 c0 c1 c2 c3 v0 v1 v2
  obtain ⟨c0, c1, c2, c3⟩ := S2.out.box.four
  obtain ⟨v0, v1, v2⟩ := S2.out.veh.three
  go_wp2_with fail
  go_ret
  exact ⟨rfl, S2.out.bl⟩

set_option maxHeartbeats 4000000 in
set_option maxRecDepth 100000 in
theorem LineClearAll_line {L : Ll} {H : Hds} {v : Lv} (hL : L.ok) (hF : ∀ w : World, LnAt w w.heap.size L H → Calls Try.prog 16 #[(.agg #[.string L.name, .slice H.j.A L.js.length H.j.c, .slice H.b.A L.bs.length H.b.c, .slice H.s.A L.ss.length H.s.c])] w fun e w' => e = .returned (.bool true) ∧ Below w.heap.size w w') {m1 m2 er : Int} (hck : ckLine L = ((m1, m2), er)) (he : er ≠ 0) (gp : Hd) (bn : Nat) (w : World) (hA : LnAt w w.heap.size L H) :
    Calls Try.prog 11 #[(.agg #[.string L.name, .slice H.j.A L.js.length H.j.c, .slice H.b.A L.bs.length H.b.c, .slice H.s.A L.ss.length H.s.c]), (.agg #[.int .i64 v.len, .int .i64 v.clear, .int .i64 v.step]), .slice gp.A bn gp.c] w fun e w' => e = .returned (.bool true) ∧ Below w.heap.size w w' := by
  have S0 := Lib.hid (QV.start (v := v) hA)
  have HF := Lib.hid hF
  have HL := Lib.hid hL
  have HC := Lib.hid hck
  have ge : (er != 0) = true := by simp [he]
  clear hF hL hck he
  clear hA
  go_enter Try.func11, Try.ntmps11
  go_wp2_with fail
  refine (awake_any _).mono ?_
  rintro e w1 ⟨rfl, hb1⟩
  have S1 := Lib.hid (QV.from hb1 S0.out)
  clear hb1 S0
  obtain ⟨c0, c1, c2, c3⟩ := S1.out.box.four
  obtain ⟨v0, v1, v2⟩ := S1.out.veh.three
  go_wp2_with fail
  refine (HF.out _ S1.out.lnW).mono ?_
  rintro e w2 ⟨rfl, hb2⟩
  have S2 := Lib.hid (QV.from hb2 S1.out)
  clear hb2 S1 c0 c1 c2 c3 v0 v1 v2
  obtain ⟨c0, c1, c2, c3⟩ := S2.out.box.four
  obtain ⟨v0, v1, v2⟩ := S2.out.veh.three
  go_wp2_with fail
  refine (LineErr_at HC.out H HL.out _ S2.out.lnW).mono ?_
  rintro e w3 ⟨rfl, hb3⟩
  have S3 := Lib.hid (QV.from hb3 S2.out)
  clear hb3 S2 c0 c1 c2 c3 v0 v1 v2
  obtain ⟨c0, c1, c2, c3⟩ := S3.out.box.four
  obtain ⟨v0, v1, v2⟩ := S3.out.veh.three
  go_wp2_with fail
  go_ret
  exact ⟨rfl, S3.out.bl⟩

set_option maxHeartbeats 4000000 in
set_option maxRecDepth 100000 in
theorem LineClearAll_veh {L : Ll} {H : Hds} {v : Lv} (hL : L.ok) (hF : ∀ w : World, LnAt w w.heap.size L H → Calls Try.prog 16 #[(.agg #[.string L.name, .slice H.j.A L.js.length H.j.c, .slice H.b.A L.bs.length H.b.c, .slice H.s.A L.ss.length H.s.c])] w fun e w' => e = .returned (.bool true) ∧ Below w.heap.size w w') (hck : ckLine L = ((0, 0), 0)) {er : Int} (hv : vErr v = er) (he : er ≠ 0) (gp : Hd) (bn : Nat) (w : World) (hA : LnAt w w.heap.size L H) :
    Calls Try.prog 11 #[(.agg #[.string L.name, .slice H.j.A L.js.length H.j.c, .slice H.b.A L.bs.length H.b.c, .slice H.s.A L.ss.length H.s.c]), (.agg #[.int .i64 v.len, .int .i64 v.clear, .int .i64 v.step]), .slice gp.A bn gp.c] w fun e w' => e = .returned (.bool true) ∧ Below w.heap.size w w' := by
  have S0 := Lib.hid (QV.start (v := v) hA)
  have HF := Lib.hid hF
  have HL := Lib.hid hL
  have HC := Lib.hid hck
  have HVE := Lib.hid hv
  have ge : (er != 0) = true := by simp [he]
  clear hF hL hck he hv
  clear hA
  go_enter Try.func11, Try.ntmps11
  go_wp2_with fail
  refine (awake_any _).mono ?_
  rintro e w1 ⟨rfl, hb1⟩
  have S1 := Lib.hid (QV.from hb1 S0.out)
  clear hb1 S0
  obtain ⟨c0, c1, c2, c3⟩ := S1.out.box.four
  obtain ⟨v0, v1, v2⟩ := S1.out.veh.three
  go_wp2_with fail
  refine (HF.out _ S1.out.lnW).mono ?_
  rintro e w2 ⟨rfl, hb2⟩
  have S2 := Lib.hid (QV.from hb2 S1.out)
  clear hb2 S1 c0 c1 c2 c3 v0 v1 v2
  obtain ⟨c0, c1, c2, c3⟩ := S2.out.box.four
  obtain ⟨v0, v1, v2⟩ := S2.out.veh.three
  go_wp2_with fail
  refine (LineErr_at HC.out H HL.out _ S2.out.lnW).mono ?_
  rintro e w3 ⟨rfl, hb3⟩
  have S3 := Lib.hid (QV.from hb3 S2.out)
  clear hb3 S2 c0 c1 c2 c3 v0 v1 v2
  obtain ⟨c0, c1, c2, c3⟩ := S3.out.box.four
  obtain ⟨v0, v1, v2⟩ := S3.out.veh.three
  go_wp2_with fail
  refine (VehicleErr_any v _).mono ?_
  rintro e w4 ⟨rfl, hb4⟩
  rw [HVE.out]
  have S4 := Lib.hid (QV.from hb4 S3.out)
  clear hb4 S3 c0 c1 c2 c3 v0 v1 v2
  obtain ⟨c0, c1, c2, c3⟩ := S4.out.box.four
  obtain ⟨v0, v1, v2⟩ := S4.out.veh.three
  go_wp2_with fail
  go_ret
  exact ⟨rfl, S4.out.bl⟩

set_option maxHeartbeats 4000000 in
set_option maxRecDepth 100000 in
theorem LineClearAll_many {L : Ll} {H : Hds} {v : Lv} (hL : L.ok) (hF : ∀ w : World, LnAt w w.heap.size L H → Calls Try.prog 16 #[(.agg #[.string L.name, .slice H.j.A L.js.length H.j.c, .slice H.b.A L.bs.length H.b.c, .slice H.s.A L.ss.length H.s.c])] w fun e w' => e = .returned (.bool true) ∧ Below w.heap.size w w') (hck : ckLine L = ((0, 0), 0)) (hr : Right L) (hv : vErr v = 0) (hm : decide (placeL L.bs L.bs.length / v.step ≤ 100) = false) (gp : Hd) (bn : Nat) (w : World) (hA : LnAt w w.heap.size L H) :
    Calls Try.prog 11 #[(.agg #[.string L.name, .slice H.j.A L.js.length H.j.c, .slice H.b.A L.bs.length H.b.c, .slice H.s.A L.ss.length H.s.c]), (.agg #[.int .i64 v.len, .int .i64 v.clear, .int .i64 v.step]), .slice gp.A bn gp.c] w fun e w' => e = .returned (.bool true) ∧ Below w.heap.size w w' := by
  have S0 := Lib.hid (QV.start (v := v) hA)
  have HF := Lib.hid hF
  have HL := Lib.hid hL
  have HC := Lib.hid hck
  have HV := Lib.hid hv
  have HR := Lib.hid hr
  have HM := Lib.hid hm
  clear hF hL hck hv hr hm
  clear hA
  go_enter Try.func11, Try.ntmps11
  go_wp2_with fail
  refine (awake_any _).mono ?_
  rintro e w1 ⟨rfl, hb1⟩
  have S1 := Lib.hid (QV.from hb1 S0.out)
  clear hb1 S0
  obtain ⟨c0, c1, c2, c3⟩ := S1.out.box.four
  obtain ⟨v0, v1, v2⟩ := S1.out.veh.three
  go_wp2_with fail
  refine (HF.out _ S1.out.lnW).mono ?_
  rintro e w2 ⟨rfl, hb2⟩
  have S2 := Lib.hid (QV.from hb2 S1.out)
  clear hb2 S1 c0 c1 c2 c3 v0 v1 v2
  obtain ⟨c0, c1, c2, c3⟩ := S2.out.box.four
  obtain ⟨v0, v1, v2⟩ := S2.out.veh.three
  go_wp2_with fail
  refine (LineErr_at HC.out H HL.out _ S2.out.lnW).mono ?_
  rintro e w3 ⟨rfl, hb3⟩
  have S3 := Lib.hid (QV.from hb3 S2.out)
  clear hb3 S2 c0 c1 c2 c3 v0 v1 v2
  obtain ⟨c0, c1, c2, c3⟩ := S3.out.box.four
  obtain ⟨v0, v1, v2⟩ := S3.out.veh.three
  go_wp2_with fail
  refine (VehicleErr_any v _).mono ?_
  rintro e w4 ⟨rfl, hb4⟩
  rw [HV.out]
  have S4 := Lib.hid (QV.from hb4 S3.out)
  clear hb4 S3 c0 c1 c2 c3 v0 v1 v2
  obtain ⟨c0, c1, c2, c3⟩ := S4.out.box.four
  obtain ⟨v0, v1, v2⟩ := S4.out.veh.three
  go_wp2_with fail
  refine (lawPoses_any HR.out HV.out HM.out H HL.out _ S4.out.lnW).mono ?_
  rintro e w5 ⟨rfl, hb5⟩
  have S5 := Lib.hid (QV.from hb5 S4.out)
  clear hb5 S4 c0 c1 c2 c3 v0 v1 v2
  obtain ⟨c0, c1, c2, c3⟩ := S5.out.box.four
  obtain ⟨v0, v1, v2⟩ := S5.out.veh.three
  go_wp2_with fail
  go_ret
  exact ⟨rfl, S5.out.bl⟩

set_option maxHeartbeats 4000000 in
set_option maxRecDepth 100000 in
theorem LineClearAll_long {L : Ll} {H : Hds} {v : Lv} (hL : L.ok) (hF : ∀ w : World, LnAt w w.heap.size L H → Calls Try.prog 16 #[(.agg #[.string L.name, .slice H.j.A L.js.length H.j.c, .slice H.b.A L.bs.length H.b.c, .slice H.s.A L.ss.length H.s.c])] w fun e w' => e = .returned (.bool true) ∧ Below w.heap.size w w') (hck : ckLine L = ((0, 0), 0)) (hr : Right L) (hv : vErr v = 0) (hm : decide (placeL L.bs L.bs.length / v.step ≤ 100) = true) (gp : Hd) (bn : Nat) (hbn : (50 : Int) < (bn : Int)) (w : World) (hA : LnAt w w.heap.size L H) :
    Calls Try.prog 11 #[(.agg #[.string L.name, .slice H.j.A L.js.length H.j.c, .slice H.b.A L.bs.length H.b.c, .slice H.s.A L.ss.length H.s.c]), (.agg #[.int .i64 v.len, .int .i64 v.clear, .int .i64 v.step]), .slice gp.A bn gp.c] w fun e w' => e = .returned (.bool true) ∧ Below w.heap.size w w' := by
  have S0 := Lib.hid (QV.start (v := v) hA)
  have HF := Lib.hid hF
  have HL := Lib.hid hL
  have HC := Lib.hid hck
  have HV := Lib.hid hv
  have HR := Lib.hid hr
  have HM := Lib.hid hm
  clear hF hL hck hv hr hm
  clear hA
  go_enter Try.func11, Try.ntmps11
  go_wp2_with fail
  refine (awake_any _).mono ?_
  rintro e w1 ⟨rfl, hb1⟩
  have S1 := Lib.hid (QV.from hb1 S0.out)
  clear hb1 S0
  obtain ⟨c0, c1, c2, c3⟩ := S1.out.box.four
  obtain ⟨v0, v1, v2⟩ := S1.out.veh.three
  go_wp2_with fail
  refine (HF.out _ S1.out.lnW).mono ?_
  rintro e w2 ⟨rfl, hb2⟩
  have S2 := Lib.hid (QV.from hb2 S1.out)
  clear hb2 S1 c0 c1 c2 c3 v0 v1 v2
  obtain ⟨c0, c1, c2, c3⟩ := S2.out.box.four
  obtain ⟨v0, v1, v2⟩ := S2.out.veh.three
  go_wp2_with fail
  refine (LineErr_at HC.out H HL.out _ S2.out.lnW).mono ?_
  rintro e w3 ⟨rfl, hb3⟩
  have S3 := Lib.hid (QV.from hb3 S2.out)
  clear hb3 S2 c0 c1 c2 c3 v0 v1 v2
  obtain ⟨c0, c1, c2, c3⟩ := S3.out.box.four
  obtain ⟨v0, v1, v2⟩ := S3.out.veh.three
  go_wp2_with fail
  refine (VehicleErr_any v _).mono ?_
  rintro e w4 ⟨rfl, hb4⟩
  rw [HV.out]
  have S4 := Lib.hid (QV.from hb4 S3.out)
  clear hb4 S3 c0 c1 c2 c3 v0 v1 v2
  obtain ⟨c0, c1, c2, c3⟩ := S4.out.box.four
  obtain ⟨v0, v1, v2⟩ := S4.out.veh.three
  go_wp2_with fail
  refine (lawPoses_any HR.out HV.out HM.out H HL.out _ S4.out.lnW).mono ?_
  rintro e w5 ⟨rfl, hb5⟩
  have S5 := Lib.hid (QV.from hb5 S4.out)
  clear hb5 S4 c0 c1 c2 c3 v0 v1 v2
  obtain ⟨c0, c1, c2, c3⟩ := S5.out.box.four
  obtain ⟨v0, v1, v2⟩ := S5.out.veh.three
  go_wp2_with fail
  go_ret
  exact ⟨rfl, S5.out.bl⟩

theorem LineClearAll_any (L : Ll) (H : Hds) (hH : HdsOk H) (n1 : L.name.size ≤ maxLen) (n2 : L.js.length ≤ maxLen) (n3 : L.bs.length ≤ maxLen) (n4 : L.ss.length ≤ maxLen) (n5 : ∀ s ∈ L.ss, s.across.length ≤ maxLen ∧ s.name.size ≤ maxLen)
    (oj : ∀ j ∈ L.js, j.ok) (ob : ∀ b ∈ L.bs, b.ok) (os : ∀ s ∈ L.ss, s.ok) (v : Lv) (gp : Hd) (bs : List Int) (hbs : ∀ b ∈ bs, 0 ≤ b ∧ b ≤ 255) (w : World) (hA : LnAt w w.heap.size L H) (hP : Lies w w.heap.size gp.A (uc bs)) :
    Calls Try.prog 11 #[(.agg #[.string L.name, .slice H.j.A L.js.length H.j.c, .slice H.b.A L.bs.length H.b.c, .slice H.s.A L.ss.length H.s.c]), (.agg #[.int .i64 v.len, .int .i64 v.clear, .int .i64 v.step]), .slice gp.A bs.length gp.c] w fun e w' => e = .returned (.bool true) ∧ Below w.heap.size w w' := by
  cases hf : fewL L with
  | false =>
    refine LineClearAll_few (fun w hA => ?_) gp bs.length w hA
    have h := Few_any L H n1 n2 n3 n4 n5 w hA
    rw [hf] at h
    exact h
  | true =>
    have hL : L.ok := few_ok hf oj ob os
    have hF : ∀ w : World, LnAt w w.heap.size L H → Calls Try.prog 16 #[(.agg #[.string L.name, .slice H.j.A L.js.length H.j.c, .slice H.b.A L.bs.length H.b.c, .slice H.s.A L.ss.length H.s.c])] w fun e w' => e = .returned (.bool true) ∧ Below w.heap.size w w' := fun w hA => by
      have h := Few_any L H n1 n2 n3 n4 n5 w hA
      rw [hf] at h
      exact h
    by_cases he : (ckLine L).2 = 0
    · have hr := right_of he
      have hck := ck_right he
      by_cases hv : vErr v = 0
      · cases hm : decide (placeL L.bs L.bs.length / v.step ≤ 100) with
        | false => exact LineClearAll_many hL hF hck hr hv hm gp bs.length w hA
        | true =>
          by_cases hl : bs.length ≤ 50
          · exact LineClearAll_main hL hH hF hr hck hv hm gp bs hbs hl w hA hP
          · exact LineClearAll_long hL hF hck hr hv hm gp bs.length (by omega) w hA
      · exact LineClearAll_veh hL hF hck rfl hv gp bs.length w hA
    · exact LineClearAll_line hL hF (m1 := (ckLine L).1.1) (m2 := (ckLine L).1.2) rfl he gp bs.length w hA

section
variable {H : Type} {enc : TypeId × Value → H} {W : World}
theorem uc_flat : ∀ l : List Int, l.flatMap (fun x : Int => [Value.int .u8 x]) = uc l
  | [] => rfl
  | x :: l => by rw [List.flatMap_cons, uc_flat l]; rfl
theorem cells_u8 : Try.prog.cellsOf 5 = 1 := by kernel_rfl
set_option maxRecDepth 100000 in
/-- Bytes, opened. -/
theorem open_bytes {base : Nat} {r : Reach} {b0 : Nat} {v : Value} {d : DataW H} {p : List MemPlace} (hv : Value.okWide Try.prog W r b0 97 v) (h : DataW.Trod enc Try.prog W base (fun _ => true) true 97 v d p) :
    ∃ (l : List Int) (g : Hd), v = .slice g.A l.length g.c ∧ (∀ b ∈ l, 0 ≤ b ∧ b ≤ 255) ∧ Lies W W.heap.size g.A (uc l) := by
  obtain ⟨A, n, c, rfl⟩ := okWide_slice Try.underlying97 hv
  obtain ⟨fuel, hf⟩ := h
  obtain ⟨l, g, h1, _, _, h2, h3⟩ := open_made (fun x : Int => [.int .u8 x]) (fun x => 0 ≤ x ∧ x ≤ 255) 1 (by decide) (fun _ => rfl) Try.underlying97 cells_u8 (fun {fuel cs x} h => by
    obtain ⟨n, hc, _, hw⟩ := DataW.trod_int Try.underlying5 h
    exact ⟨n, hc, bounds_u8 hw⟩) hf
  rw [uc_flat] at h3
  exact ⟨l, g, h1, h2, h3⟩
end

set_option maxRecDepth 100000 in
theorem lineClearAll_lifted (os : Os) (started : os.Started) (H : Type) (enc : TypeId × Value → H) :
    ReturnsInHanded {} Try.checked os 11 .any (Rows.lineClearAllSpec.pre6 enc Try.prog Try.f11 Rows.lineClearAllRow.domain false) (Rows.lineClearAllSpec.post enc Try.prog Try.f11 false true false false) := by
  refine returnsInHanded_of_change (C := Try.checked) own_try started (by kernel_rfl) Try.func11
    (ChangeSpec.witness6 (enc := enc) (C := Try.checked) false ⟨#[], #[.agg #[.string ⟨#[]⟩, .slice none 0 0, .slice none 0 0, .slice none 0 0], .agg #[.int .i64 0, .int .i64 0, .int .i64 0], .slice none 0 0], []⟩ 12 (by kernel_rfl) (by kernel_rfl) (by kernel_rfl) (by kernel_rfl)) ?_
  intro W base args ds gs before hval0 hW hcnd _
  have hval : ∀ (j : Nat) t v, Try.f11.params[j]? = some t → args[j]? = some v → Value.okWide Try.prog W .any base t v := hval0
  have hW' := hW
  obtain ⟨p, q, hA0, hV, rfl, hfz, hnd⟩ := hW
  have hA : DataW.TrodAll enc Try.prog W 0 (fun _ => true) true Try.f11.params.toList args.toList ds p := hA0
  rw [Try.params11] at hA hval
  obtain ⟨v0, v1, v2, d0, d1, d2, p0, p1, p2, rfl, rfl, rfl, h0, h1, h2⟩ := trodAll_three hA
  obtain ⟨rfl, rfl⟩ := trodVars_none hV
  have k0 := h0
  have k1 := h1
  have k2 := h2
  obtain ⟨L, Hd, rfl, hL, hH, n1, n2, n3, n4, n5, oj, ob, os'⟩ := open_line (hval 0 26 v0 rfl rfl) h0
  obtain ⟨u, rfl⟩ := open_veh (hval 1 77 v1 rfl rfl) h1
  obtain ⟨pl, pg, rfl, hpb, hpl⟩ := open_bytes (hval 2 97 v2 rfl rfl) h2
  clear hA0 hval0 hA hval
  simp only [List.append_nil] at hW'
  refine (LineClearAll_any L Hd hH n1 n2 n3 n4 n5 oj ob os' u pg pl hpb W hL hpl).mono fun e W' ⟨he, hb⟩ => ?_
  subst he
  exact ⟨_, rfl, law_three rfl rfl rfl rfl (by rw [List.append_nil, List.append_assoc] at *; exact hW') k0 k1 k2 (by kernel_rfl) (by kernel_rfl) (by kernel_rfl) (of_decide_eq_true (by kernel_rfl)) (of_decide_eq_true (by kernel_rfl)) (of_decide_eq_true (by kernel_rfl)) hb⟩

theorem lineClearAll_holds : Rows.LineClearAllSaid :=
  OpenClaim.holds_of_wide 11 Try.f11 rfl rfl rfl rfl rfl rfl rfl ⟨rfl, rfl, rfl, rfl, rfl⟩ rfl rfl rfl rfl rfl (by kernel_rfl) Try.func11 (by kernel_rfl)
    (of_decide_eq_true (by kernel_rfl)) (by unfold Func.isWrapper; first | (rw [if_pos (by decide +kernel)]; kernel_rfl) | (rw [if_neg (by decide +kernel)]; exact ⟨rfl, rfl⟩))
    (fun os started H enc _ => lineClearAll_lifted os started H enc)
end Go.Proofs.Ytmnlgeglmkdecaa
