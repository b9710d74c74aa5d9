
/-
  The walks of the examples and of the small functions of the two statements over chapter 3.
-/
import Derived.Test.YtohldmmfnjfgmaaDoorTAwk
import Derived.Test.YtohldmmfnjfgmaaDoorTEven
import Derived.Test.YtohldmmfnjfgmaaDoorTTopP
namespace Go.Proofs.YtohldmmfnjfgmaaDoor
open Go.RowKit

set_option maxHeartbeats 2000000 in
set_option maxRecDepth 100000 in
theorem topAwake_any (w : World) (hT : Tab w) : Calls Tryd.prog 45 #[] w fun e w' => e = .returned (.bool true) ∧ Below w.heap.size w w' := by
  have HT := Lib.hid hT
  clear hT
  go_enter Tryd.func45, Tryd.ntmps45
  go_wp2_with fail
  refine (Turned_ok ⟨0, 1⟩ 1 (by decide) (by decide) _).mono ?_
  rw [turned_one]
  rintro e w1 ⟨rfl, hb1⟩
  have F1 := Lib.hid ((Fr.call (Fr.nil w) hb1).box 24 #[.int .i64 (-1), .int .i64 0])
  have z1 := (Fr.call (Fr.nil w) hb1).size
  clear hb1
  have L3 := Lib.hid (Lies.bk6 (Bk.new1 w1 (.cells #[.int .i64 (-1), .int .i64 0] 24) 24 #[.int .i64 4, .int .i64 0, .int .i64 4, .int .i64 0, .int .i64 4, .int .i64 0]))
  have T3 := Lib.hid ((HT.out.below F1.out.bl HT.out.lt).new (.cells #[.int .i64 4, .int .i64 0, .int .i64 4, .int .i64 0, .int .i64 4, .int .i64 0] 24))
  have F3 := Lib.hid (F1.out.new (.cells #[.int .i64 4, .int .i64 0, .int .i64 4, .int .i64 0, .int .i64 4, .int .i64 0] 24))
  go_wp2_with fail
  refine (Modulated_ex _ T3.out _ _ L3.out).mono ?_
  rintro e w3 ⟨A1, c1, A2, c2, rfl, y1, y2, hb3⟩
  have F4 := Lib.hid (Fr.new (Fr.call F3.out hb3) (.cells #[.slice A1 3 c1, .slice A2 3 c2] 56))
  have Y1 := Lib.hid (Lies.new y1 (.cells #[.slice A1 3 c1, .slice A2 3 c2] 56))
  have z3 := (Fr.call F3.out hb3).top.lt
  obtain ⟨v0, v1, _, _⟩ := (Fr.call F3.out hb3).top.two
  clear hb3 y1 y2 F3 T3 L3
  go_wp2_with fail
  refine (Ints_same [0, 4, 0] A1 (some ⟨_, 0, none⟩) c1 _ (by simp [maxLen]) _ (Lies.new Y1.out _) (Lies.bk3 (Bk.new1 w3 _ 3 #[.int .i64 0, .int .i64 4, .int .i64 0]))).mono ?_
  rintro e w5 ⟨rfl, hb5⟩
  have F5 := Lib.hid (Fr.call (F4.out.new (.cells #[.int .i64 0, .int .i64 4, .int .i64 0] 3)) hb5)
  clear hb5 v0 v1 z3
  go_wp2_with fail
  go_ret
  exact ⟨rfl, F5.out.bl⟩

set_option maxHeartbeats 400000 in
theorem statorSmall_any (v : T3) (w : World) : Calls Tryd.prog 46 #[(.agg #[.int .i64 v.a, .int .i64 v.b])] w fun e w' => e = .returned (.bool (smT v)) ∧ Below w.heap.size w w' := by
  have hb := box1 w #[.int .i64 v.a, .int .i64 v.b] 24
  cases h1 : inB v.a (-1000) 1000 <;> cases h2 : inB v.b (-1000) 1000
  all_goals
    go_enter Tryd.func46, Tryd.ntmps46
    go_wp2_with (go_at_call 18; refine (Within_any _ _ _ _).mono ?_; rintro e w' ⟨rfl, rfl⟩)
    go_ret
    exact ⟨ret_bool (by simp [smT, h1, h2]), hb⟩

set_option maxHeartbeats 800000 in
theorem refIsNear_any (M : Int) (hM : 1 ≤ M ∧ M ≤ 100000) (v : T3) (hv : v.Bd 100000000) (w : World) : Calls Tryd.prog 27 #[.int .i64 M, (.agg #[.int .i64 v.a, .int .i64 v.b])] w fun e w' => e = .returned (.bool (nearB M v)) ∧ Below w.heap.size w w' := by
  have hb := box1 w #[.int .i64 v.a, .int .i64 v.b] 24
  obtain ⟨a0, a1, b0, b1⟩ := hv
  obtain ⟨m0, m1⟩ := hM
  cases h1 : inB (2 * v.a - v.b) (-M) M <;> cases h2 : inB (2 * v.b - v.a) (-M) M <;> cases h3 : inB (v.a + v.b) (-M) M
  all_goals
    go_enter Tryd.func27, Tryd.ntmps27
    go_wp2_with (go_at_call 59; refine (refsize_any _ _ (by omega) (by omega) _).mono ?_; rintro e w' ⟨rfl, rfl⟩)
    go_ret
    exact ⟨ret_bool (by simp [nearB, h1, h2, h3]), hb⟩
end Go.Proofs.YtohldmmfnjfgmaaDoor
