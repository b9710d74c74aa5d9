
/-
  What TopBrakeTogether calls itself: brakeAwake, brakeSmall.
-/
import Derived.Test.YtaghpemdcmjchaaBAwk
import Derived.Test.YtaghpemdcmjchaaBErr
namespace Go.Proofs.Ytaghpemdcmjchaa
open Go.RowKit

def smallB (s : ByteArray) (ps : List Bp) : Bool := decide (s.size ≤ 20) && (decide (ps.length ≤ 8) && decide ((trE s ps).2 = 0))
theorem small_iff {s : ByteArray} {ps : List Bp} : smallB s ps = true ↔ s.size ≤ 20 ∧ ps.length ≤ 8 ∧ (trE s ps).2 = 0 := by simp [smallB]
set_option maxHeartbeats 2000000 in
theorem brakeSmall_any (s : ByteArray) (hs : s.size ≤ maxLen) (ps : List Bp) (A : Option Addr) (c : Nat) (hl : ps.length ≤ maxLen) (w : World) (hA : Lies w w.heap.size A (ps.flatMap pc)) :
    Calls Try.prog 5 #[.agg #[.string s, .slice A ps.length c]] w fun e w' => e = .returned (.bool (smallB s ps)) ∧ Below w.heap.size w w' := by
  have F0 := Lib.hid (Fr.b1 w 24 #[.string s, .slice A ps.length c])
  have HA := Lib.hid hA
  have HT := Lib.hid (fun W hW => TrackErr_any s hs ps A c hl W hW)
  obtain ⟨er, her⟩ : ∃ er, (trE s ps).2 = er := ⟨_, rfl⟩
  rw [her] at HT
  have HE := Lib.hid her
  unfold maxLen at hs hl
  have x0 := F0.out.top.cell 0
  have x1 := F0.out.top.cell 1
  by_cases h1 : (s.size : Int) ≤ 20
  · by_cases h2 : (ps.length : Int) ≤ 8
    · have HS : Hid (smallB s ps = (er == 0)) := Lib.hid (by
        unfold smallB
        rw [her, decide_eq_true (show s.size ≤ 20 by omega), decide_eq_true (show ps.length ≤ 8 by omega), Bool.true_and, Bool.true_and, Bool.eq_iff_iff, decide_eq_true_eq, beq_iff_eq])
      clear hA her
      go_enter Try.func5, Try.ntmps5
      go_wp2_with fail
      refine (HT.out _ (Fr.lies HA.out F0.out)).mono ?_
      rintro e w1 ⟨rfl, hb1⟩
      have F1 := Lib.hid (F0.out.call hb1)
      clear hb1 F0 x0 x1
      go_wp2_with fail
      go_ret
      exact ⟨ret_bool HS.out.symm, F1.out.bl⟩
    · have HS : Hid (smallB s ps = false) := Lib.hid (by
        unfold smallB
        rw [decide_eq_false (show ¬ ps.length ≤ 8 by omega), Bool.false_and, Bool.and_false])
      clear hA her
      go_enter Try.func5, Try.ntmps5
      go_wp2_with fail
      go_ret
      exact ⟨ret_bool HS.out.symm, F0.out.bl⟩
  · have HS : Hid (smallB s ps = false) := Lib.hid (by
      unfold smallB
      rw [decide_eq_false (show ¬ s.size ≤ 20 by omega), Bool.false_and])
    clear hA her
    go_enter Try.func5, Try.ntmps5
    go_wp2_with fail
    go_ret
    exact ⟨ret_bool HS.out.symm, F0.out.bl⟩

set_option maxHeartbeats 4000000 in
set_option maxRecDepth 100000 in
theorem brakeAwake_any (w : World) : Calls Try.prog 4 #[] w fun e w' => e = .returned (.bool true) ∧ Below w.heap.size w w' := by
  have F0 := Lib.hid (Fr.b3 w 54 #[.int .i64 100, .int .i64 0, .int .i64 10000, .bool false, .int .i64 100, .int .i64 0, .int .i64 8000, .bool true, .int .i64 50, .int .i64 (-10), .int .i64 10000, .bool false, .int .i64 200, .int .i64 0, .int .i64 10000, .bool true] 24 #[.string ⟨#[116]⟩, .slice (some ⟨w.heap.size, 0, none⟩) 4 4] 26 #[.int .i64 100, .int .i64 10, .int .i64 50])
  have L0 : Hid (Lies _ _ (some ⟨w.heap.size, 0, none⟩) (exPs.flatMap pc)) := Lib.hid (fun j u hu => ⟨_, rfl, (F0.out.get 2 rfl).lt, (F0.out.get 2 rfl).adds j u hu⟩)
  have x0 := (F0.out.get 1 rfl).cell 0
  have x1 := (F0.out.get 1 rfl).cell 1
  have y0 := (F0.out.get 0 rfl).cell 0
  have y1 := (F0.out.get 0 rfl).cell 1
  have y2 := (F0.out.get 0 rfl).cell 2
  go_enter Try.func4, Try.ntmps4
  go_wp2_with fail
  refine (CurveOf_ex _ w.heap.size L0.out).mono ?_
  rintro e w3 ⟨gc, rfl, hY1, hb3⟩
  have F3 := Lib.hid (Fr.call F0.out hb3)
  have L3 := Lib.hid (Lies.call L0.out hb3)
  have Y1 := Lib.hid hY1
  clear hb3 L0 F0 hY1 x0 x1 y0 y1 y2
  have x0 := (F3.out.get 1 rfl).cell 0
  have x1 := (F3.out.get 1 rfl).cell 1
  have y0 := (F3.out.get 0 rfl).cell 0
  have y1 := (F3.out.get 0 rfl).cell 1
  have y2 := (F3.out.get 0 rfl).cell 2
  go_wp2_with fail
  refine (RunTo_ex _ w.heap.size L3.out).mono ?_
  rintro e w6 ⟨gr, rfl, hY2, hb6⟩
  have F6 := Lib.hid (Fr.call F3.out hb6)
  have Y1 := Lib.hid (Lies.call Y1.out hb6)
  have Y2 := Lib.hid hY2
  clear hb6 L3 F3 hY2 x0 x1 y0 y1 y2
  go_wp2_with fail
  refine (Ints_same [10000, 8000, 0] gc.A (some ⟨_, 0, none⟩) gc.c 3 (by simp [maxLen]) _ (Lies.new Y1.out _) (fs_alloc (l := [10000, 8000, 0]) rfl (by simp [maxLen]))).mono ?_
  rintro e w13 ⟨rfl, hb13⟩
  have F13 := Lib.hid (Fr.call (Fr.new F6.out (.cells #[.int .i64 10000, .int .i64 8000, .int .i64 0] 3)) hb13)
  have Y2 := Lib.hid (Lies.call (Lies.new Y2.out (.cells #[.int .i64 10000, .int .i64 8000, .int .i64 0] 3)) hb13)
  clear hb13 F6 Y1
  go_wp2_with fail
  refine (Ints_same [5000, 3000, 1000, 10000] gr.A (some ⟨_, 0, none⟩) gr.c 4 (by simp [maxLen]) _ (Lies.new Y2.out _) (fs_alloc (l := [5000, 3000, 1000, 10000]) rfl (by simp [maxLen]))).mono ?_
  rintro e w14 ⟨rfl, hb14⟩
  have F14 := Lib.hid (Fr.call (Fr.new F13.out (.cells #[.int .i64 5000, .int .i64 3000, .int .i64 1000, .int .i64 10000] 3)) hb14)
  clear hb14 F13 Y2
  go_wp2_with fail
  go_ret
  exact ⟨rfl, F14.out.bl⟩
end Go.Proofs.Ytaghpemdcmjchaa
