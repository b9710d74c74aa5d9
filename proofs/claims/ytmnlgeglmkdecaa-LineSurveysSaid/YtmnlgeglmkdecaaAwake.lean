/-
  The walk of awake: the examples of the document.
-/
import Derived.Test.YtmnlgeglmkdecaaDevAt
import Derived.Test.YtmnlgeglmkdecaaLimAt
namespace Go.Proofs.Ytmnlgeglmkdecaa
open Go.RowKit

def shortV : Lv := ⟨10000, 60, 2500⟩
/-- The heads of the line of the examples. -/
abbrev shortH (g : Nat) : Hds := ⟨⟨some ⟨g, 0, none⟩, 3⟩, ⟨some ⟨g + 1, 0, none⟩, 2⟩, ⟨none, 0⟩, []⟩

theorem LengthOf_s (g : Nat) (w : World) (hA : LnAt w w.heap.size shortL (shortH g)) :
    Calls Try.prog 19 #[.agg #[.string shortName, .slice (some ⟨g, 0, none⟩) 3 3, .slice (some ⟨g + 1, 0, none⟩) 2 2, .slice none 0 0]] w fun e w' => e = .returned (.tuple #[.int .i64 20000, .int .i64 0]) ∧ Below w.heap.size w w' := by
  have h := LengthOf_any (shortH g) short_ok w hA
  have e : lenErr shortL = (20000, 0) := by decide +kernel
  rw [e] at h
  exact h
theorem LimitAt_s (g : Nat) (w : World) (hA : LnAt w w.heap.size shortL (shortH g)) :
    Calls Try.prog 46 #[.agg #[.string shortName, .slice (some ⟨g, 0, none⟩) 3 3, .slice (some ⟨g + 1, 0, none⟩) 2 2, .slice none 0 0], .int .i64 1000, .int .i64 1] w fun e w' => e = .returned (.tuple #[.int .i64 745250000, .int .i64 0]) ∧ Below w.heap.size w w' := by
  have h := LimitAt_short (L := shortL) (shortH g) w hA rfl
  exact h
theorem DeviationAt_s (g : Nat) (w : World) (hA : LnAt w w.heap.size shortL (shortH g)) :
    Calls Try.prog 54 #[.agg #[.string shortName, .slice (some ⟨g, 0, none⟩) 3 3, .slice (some ⟨g + 1, 0, none⟩) 2 2, .slice none 0 0], .agg #[.int .i64 10000, .int .i64 60, .int .i64 2500], .agg #[.int .i64 2500, .int .i64 1]] w fun e w' => e = .returned (.tuple #[.agg #[.int .i64 (-38), .int .i64 (-37)], .int .i64 0]) ∧ Below w.heap.size w w' := by
  have h := DeviationAt_good short_right short_ck (shortH g) short_ok shortV (by decide) 2500 1 (by decide +kernel) (by decide) w hA
  have e1 : benB shortL shortV 2500 1 = true := by decide +kernel
  have e2 : devLo shortL shortV 2500 (1 : Int).toNat = -38 := by decide +kernel
  have e3 : devHi shortL shortV 2500 (1 : Int).toNat = -37 := by decide +kernel
  unfold devAns at h
  rw [e1, e2, e3] at h
  exact h

set_option maxHeartbeats 2000000 in
set_option maxRecDepth 100000 in
theorem awake_any (w : World) : Calls Try.prog 15 #[] w fun e w' => e = .returned (.bool true) ∧ Below w.heap.size w w' := by
  go_enter Try.func15, Try.ntmps15
  go_wp2_with fail
  refine (Short_any _).mono ?_
  rintro e w1 ⟨g1, rfl, hA1, hb1⟩
  have A1 := Lib.hid hA1
  have B1 := Lib.hid hb1
  clear hA1 hb1
  go_wp2_with fail
  refine (LengthOf_s g1 _ A1.out).mono ?_
  rintro e w2 ⟨rfl, hb2⟩
  have B2 := Lib.hid (Below.step B1.out hb2)
  clear hb2 A1 B1
  go_wp2_with fail
  refine (Short_any _).mono ?_
  rintro e w3 ⟨g3, rfl, hA3, hb3⟩
  have A3 := Lib.hid hA3
  have B3 := Lib.hid (Below.step B2.out hb3)
  clear hA3 hb3 B2
  go_wp2_with fail
  refine (LimitAt_s g3 _ A3.out).mono ?_
  rintro e w4 ⟨rfl, hb4⟩
  have B4 := Lib.hid (Below.step B3.out hb4)
  clear hb4 A3 B3
  go_wp2_with fail
  refine (Short_any _).mono ?_
  rintro e w5 ⟨g5, rfl, hA5, hb5⟩
  have A5 := Lib.hid hA5
  have B5 := Lib.hid (Below.step B4.out hb5)
  clear hA5 hb5 B4
  go_wp2_with fail
  refine (DeviationAt_s g5 _ A5.out).mono ?_
  rintro e w6 ⟨rfl, hb6⟩
  have B6 := Lib.hid (Below.step B5.out hb6)
  clear hb6 A5 B5
  go_wp2_with fail
  go_ret
  exact ⟨rfl, B6.out.alloc B6.out.size _⟩
end Go.Proofs.Ytmnlgeglmkdecaa
