
/-
  The walk of awake: the examples of the document.
-/
import Derived.Test.YtmjooiocgeoaiaaBStd
import Derived.Test.YtmjooiocgeoaiaaBFst
import Derived.Test.YtmjooiocgeoaiaaBRnA
namespace Go.Proofs.Ytmjooiocgeoaiaa
open Go.RowKit

set_option maxHeartbeats 2000000 in
theorem Ints_same (l : List Int) (A B : Option Addr) (c d : Nat) (hl : l.length ≤ maxLen) (w : World) (hA : Lies w w.heap.size A (ic l)) (hB : Lies w w.heap.size B (ic l)) :
    Calls Try.prog 17 #[.slice A l.length c, .slice B l.length d] w fun e w' => e = .returned (.bool true) ∧ Below w.heap.size w w' := by
  unfold maxLen at hl
  have HA := Lib.hid hA
  have HB := Lib.hid hB
  have B0 := Lib.hid (Below.refl w.heap.size w)
  clear hA hB
  go_enter Try.func17, Try.ntmps17
  go_wp2_with fail
  go_loopw [5] (fun i wr => ∃ k : Nat, k ≤ l.length ∧ i = .int .i64 k ∧ Below w.heap.size w wr) (fun i _ => l.length - (intOf i).toNat)
  case atStart => exact ⟨0, Nat.zero_le _, rfl, B0.out⟩
  case round =>
    obtain ⟨k, hk, rfl, hb⟩ := hrel
    have HW := Lib.hid hb
    have HA1 := Lib.hid (HA.out.below hb)
    have HB1 := Lib.hid (HB.out.below hb)
    clear hb B0
    by_cases hlt : k < l.length
    · obtain ⟨a, rfl, _, ca⟩ := HA1.out.num (List.getElem?_eq_getElem hlt)
      obtain ⟨b, rfl, _, cb⟩ := HB1.out.num (List.getElem?_eq_getElem hlt)
      go_wp2_with fail
      go_region
      all_goals
        go_wp2_with fail
        go_roundw
        case rel => exact ⟨k + 1, by omega, by go_num, HW.out.drew⟩
        case measure => simp [intOf]; omega
    · obtain rfl : k = l.length := by omega
      go_wp2_with fail
      go_ret
      exact ⟨rfl, HW.out⟩

def exS : ByteArray := ⟨#[116]⟩
def exPs : List Bp := [⟨100, 0, 10000, false⟩, ⟨100, 0, 8000, true⟩, ⟨50, -10, 10000, false⟩, ⟨200, 0, 10000, true⟩]
def exB : Bs := ⟨100, 10, 50⟩
theorem ex_ok : OkT exS exPs := ⟨by decide +kernel, by decide, by decide, by decide +kernel⟩
theorem ex_sys : sE exB = 0 := by decide +kernel
theorem ex_oks : OkS exB := sE_zero ex_sys
theorem ex_curve : listF ((1 : Int).toNat + 2) (crvV exPs exB.brk (1 : Int).toNat) = [10000, 8000, 0] := by decide +kernel
theorem ex_run : runE exPs exB 3 0 5000 = 0 ∧ listF (3 - 0 + 1) (runV exPs exB 3 0 5000) = [5000, 3000, 1000, 10000] := by decide +kernel
theorem ex_fast : listF (exPs.length + 1) (fwV exPs exB 0 0) = [0, 8000, 8000, 10000, 0] := by decide +kernel
/-- A slice of these numbers, and no error. -/
def ExRow (w : World) (l : List Int) (n : Nat) (e : Ending) (w' : World) : Prop := ∃ g : Hd, e = .returned (.tuple #[.slice g.A n g.c, .int .i64 0]) ∧ Lies w' w'.heap.size g.A (ic l) ∧ Below w.heap.size w w'
theorem ex_row {w : World} {l l' : List Int} {er : Int} (he : er = 0) (hl : l = l') {e : Ending} {w' : World} (h : RowE w l er e w') : ExRow w l' l'.length e w' := by
  subst he
  subst hl
  obtain ⟨g, rfl, hL, hb⟩ := h
  exact ⟨g, by rw [if_pos rfl], hL rfl, hb⟩
theorem CurveOf_ex (w : World) (g : Nat) (h : Lies w w.heap.size (some ⟨g, 0, none⟩) (exPs.flatMap pc)) : Calls Try.prog 33 #[.agg #[.string ⟨#[116]⟩, .slice (some ⟨g, 0, none⟩) 4 4], .agg #[.int .i64 100, .int .i64 10, .int .i64 50], .int .i64 1] w (ExRow w [10000, 8000, 0] 3) :=
  (CurveOf_ok exS (by decide +kernel) exPs ⟨g, 0, none⟩ 4 (by decide) exB 1 ex_ok ex_oks ex_sys (by decide +kernel) w h).mono fun _ _ h => ex_row rfl ex_curve h
theorem RunTo_ex (w : World) (g : Nat) (h : Lies w w.heap.size (some ⟨g, 0, none⟩) (exPs.flatMap pc)) : Calls Try.prog 36 #[.agg #[.string ⟨#[116]⟩, .slice (some ⟨g, 0, none⟩) 4 4], .agg #[.int .i64 100, .int .i64 10, .int .i64 50], .agg #[.int .i64 0, .int .i64 5000], .int .i64 3] w (ExRow w [5000, 3000, 1000, 10000] 4) :=
  (RunTo_ok exS (by decide +kernel) exPs ⟨g, 0, none⟩ 4 (by decide) exB ex_ok ex_oks ex_sys 3 0 (by decide) (by decide +kernel) (by decide) 5000 (by decide) w h).mono fun _ _ h => ex_row ex_run.1 ex_run.2 h
theorem StandsAt_ex (w : World) (g : Nat) (h : Lies w w.heap.size (some ⟨g, 0, none⟩) (exPs.flatMap pc)) : Calls Try.prog 37 #[.agg #[.string ⟨#[116]⟩, .slice (some ⟨g, 0, none⟩) 4 4], .agg #[.int .i64 100, .int .i64 10, .int .i64 50], .agg #[.int .i64 0, .int .i64 25000]] w fun e w' => e = .returned (.tuple #[.agg #[.int .i64 125, .int .i64 125], .int .i64 0]) ∧ Below w.heap.size w w' :=
  (StandsAt_ok exS (by decide +kernel) exPs ⟨g, 0, none⟩ 4 (by decide) exB ex_ok ex_oks ex_sys 0 25000 (by decide) 1 (by decide) (by decide +kernel) (by decide +kernel) (by decide +kernel) w h).mono fun e w' h => ⟨by rw [h.1, show plcV exPs (0 + 1) + (sqS exPs exB.brk 0 25000 1).tdiv (2 * (exB.brk + 10 * (gp exPs (0 + 1)).grad)) = 125 by decide +kernel, show plcV exPs (0 + 1) + (sqS exPs exB.brk 0 25000 1 + 2 * (exB.brk + 10 * (gp exPs (0 + 1)).grad) - 1).tdiv (2 * (exB.brk + 10 * (gp exPs (0 + 1)).grad)) = 125 by decide +kernel], h.2⟩
theorem Fastest_ex (w : World) (g : Nat) (h : Lies w w.heap.size (some ⟨g, 0, none⟩) (exPs.flatMap pc)) : Calls Try.prog 38 #[.agg #[.string ⟨#[116]⟩, .slice (some ⟨g, 0, none⟩) 4 4], .agg #[.int .i64 100, .int .i64 10, .int .i64 50], .agg #[.int .i64 0, .int .i64 0]] w (ExRow w [0, 8000, 8000, 10000, 0] 5) :=
  (Fastest_ok exS (by decide +kernel) exPs ⟨g, 0, none⟩ 4 (by decide) exB ex_ok ex_oks ex_sys 0 0 (by decide) (by decide) (by decide +kernel) (by decide +kernel) w h).mono fun _ _ h => ex_row rfl ex_fast h

set_option maxHeartbeats 4000000 in
set_option maxRecDepth 100000 in
theorem Track_any (w : World) : Calls Try.prog 34 #[] w fun e w' => ∃ g : Nat, e = .returned (.agg #[.string ⟨#[116]⟩, .slice (some ⟨g, 0, none⟩) 4 4]) ∧ Lies w' w'.heap.size (some ⟨g, 0, none⟩) (exPs.flatMap pc) ∧ Below w.heap.size w w' := by
  have F0 := Lib.hid (Fr.b2 w 24 #[.string ⟨#[]⟩, .slice none 0 0] 89 #[.int .i64 100, .int .i64 0, .int .i64 10000, .bool false, .int .i64 100, .int .i64 0, .int .i64 8000, .bool true, .int .i64 50, .int .i64 (-10), .int .i64 10000, .bool false, .int .i64 200, .int .i64 0, .int .i64 10000, .bool true])
  have d0 := F0.out.at1.cell 0
  have d1 := F0.out.at1.cell 1
  have F1 := Lib.hid (Fr.b2 w 24 #[.string ⟨#[116]⟩, .slice (some ⟨w.heap.size + 1, 0, none⟩) 4 4] 89 #[.int .i64 100, .int .i64 0, .int .i64 10000, .bool false, .int .i64 100, .int .i64 0, .int .i64 8000, .bool true, .int .i64 50, .int .i64 (-10), .int .i64 10000, .bool false, .int .i64 200, .int .i64 0, .int .i64 10000, .bool true])
  go_enter Try.func34, Try.ntmps34
  go_wp2_with fail
  exact bodyPost_ret (v := .agg #[.string ⟨#[116]⟩, .slice (some ⟨w.heap.size + 1, 0, none⟩) 4 4]) (by simp [results, Try.results34, go_sem, d0, d1]) rfl ⟨w.heap.size + 1, rfl, (fun j u hu => ⟨_, rfl, F1.out.top.lt, F1.out.top.adds j u hu⟩), F1.out.bl⟩

set_option maxHeartbeats 4000000 in
set_option maxRecDepth 100000 in
theorem System_any (w : World) : Calls Try.prog 35 #[] w fun e w' => e = .returned (.agg #[.int .i64 100, .int .i64 10, .int .i64 50]) ∧ Below w.heap.size w w' := by
  have F0 := Lib.hid (Fr.b1 w 26 #[.int .i64 0, .int .i64 0, .int .i64 0])
  have d0 := F0.out.top.cell 0
  have d1 := F0.out.top.cell 1
  have d2 := F0.out.top.cell 2
  go_enter Try.func35, Try.ntmps35
  go_wp2_with fail
  exact bodyPost_ret (v := .agg #[.int .i64 100, .int .i64 10, .int .i64 50]) (by simp [results, Try.results35, go_sem, d0, d1, d2]) rfl ⟨rfl, (by repeat (first | exact F0.out.bl | refine Below.drew ?_ | refine Below.setCell ?_ (by first | (simp; done) | (simp; omega) | omega) _ | refine Below.alloc ?_ (by first | (simp; done) | (simp; omega) | omega) _ | exact Below.refl _ _))⟩

set_option maxHeartbeats 4000000 in
set_option maxRecDepth 100000 in
theorem awake_any (w : World) : Calls Try.prog 7 #[] w fun e w' => e = .returned (.bool true) ∧ Below w.heap.size w w' := by
  have FZ := Lib.hid (Fr.nil w)
  go_enter Try.func7, Try.ntmps7
  go_wp2_with fail
  refine (Track_any _).mono ?_
  rintro e w1 ⟨g1, rfl, hL1, hb1⟩
  have F1 := Lib.hid (Fr.call FZ.out hb1)
  clear hb1
  go_wp2_with fail
  refine (System_any _).mono ?_
  rintro e w2 ⟨rfl, hb2⟩
  have F2 := Lib.hid (Fr.call F1.out hb2)
  have L1 := Lib.hid (Lies.call hL1 hb2)
  clear hb2 hL1 F1
  go_wp2_with fail
  refine (CurveOf_ex _ g1 L1.out).mono ?_
  rintro e w3 ⟨gc, rfl, hY1, hb3⟩
  have F3 := Lib.hid (Fr.call F2.out hb3)
  clear hb3 L1 F2
  have Y1 := Lib.hid hY1
  clear hY1
  go_wp2_with fail
  refine (Track_any _).mono ?_
  rintro e w4 ⟨g4, rfl, hL4, hb4⟩
  have F4 := Lib.hid (Fr.call F3.out hb4)
  have Y1 := Lib.hid (Lies.call Y1.out hb4)
  clear hb4
  go_wp2_with fail
  refine (System_any _).mono ?_
  rintro e w5 ⟨rfl, hb5⟩
  have F5 := Lib.hid (Fr.call F4.out hb5)
  have L4 := Lib.hid (Lies.call hL4 hb5)
  have Y1 := Lib.hid (Lies.call Y1.out hb5)
  clear hb5 hL4 F4
  go_wp2_with fail
  refine (RunTo_ex _ g4 L4.out).mono ?_
  rintro e w6 ⟨gr, rfl, hY2, hb6⟩
  have F6 := Lib.hid (Fr.call F5.out hb6)
  have Y1 := Lib.hid (Lies.call Y1.out hb6)
  clear hb6 L4 F5
  have Y2 := Lib.hid hY2
  clear hY2
  go_wp2_with fail
  refine (Track_any _).mono ?_
  rintro e w7 ⟨g7, rfl, hL7, hb7⟩
  have F7 := Lib.hid (Fr.call F6.out hb7)
  have Y1 := Lib.hid (Lies.call Y1.out hb7)
  have Y2 := Lib.hid (Lies.call Y2.out hb7)
  clear hb7
  go_wp2_with fail
  refine (System_any _).mono ?_
  rintro e w8 ⟨rfl, hb8⟩
  have F8 := Lib.hid (Fr.call F7.out hb8)
  have L7 := Lib.hid (Lies.call hL7 hb8)
  have Y1 := Lib.hid (Lies.call Y1.out hb8)
  have Y2 := Lib.hid (Lies.call Y2.out hb8)
  clear hb8 hL7 F7
  go_wp2_with fail
  refine (StandsAt_ex _ g7 L7.out).mono ?_
  rintro e w9 ⟨rfl, hb9⟩
  have F9 := Lib.hid (Fr.call F8.out hb9)
  have Y1 := Lib.hid (Lies.call Y1.out hb9)
  have Y2 := Lib.hid (Lies.call Y2.out hb9)
  clear hb9 L7 F8
  have FX := Lib.hid (Fr.box F9.out 49 #[.int .i64 125, .int .i64 125])
  have Y1 := Lib.hid (Lies.new Y1.out (.cells #[.int .i64 125, .int .i64 125] 49))
  have Y2 := Lib.hid (Lies.new Y2.out (.cells #[.int .i64 125, .int .i64 125] 49))
  clear F9
  go_wp2_with fail
  refine (Track_any _).mono ?_
  rintro e w10 ⟨g10, rfl, hL10, hb10⟩
  have F10 := Lib.hid (Fr.call FX.out hb10)
  have Y1 := Lib.hid (Lies.call Y1.out hb10)
  have Y2 := Lib.hid (Lies.call Y2.out hb10)
  clear hb10
  go_wp2_with fail
  refine (System_any _).mono ?_
  rintro e w11 ⟨rfl, hb11⟩
  have F11 := Lib.hid (Fr.call F10.out hb11)
  have L10 := Lib.hid (Lies.call hL10 hb11)
  have Y1 := Lib.hid (Lies.call Y1.out hb11)
  have Y2 := Lib.hid (Lies.call Y2.out hb11)
  clear hb11 hL10 F10
  go_wp2_with fail
  refine (Fastest_ex _ g10 L10.out).mono ?_
  rintro e w12 ⟨gl, rfl, hY3, hb12⟩
  have F12 := Lib.hid (Fr.call F11.out hb12)
  have Y1 := Lib.hid (Lies.call Y1.out hb12)
  have Y2 := Lib.hid (Lies.call Y2.out hb12)
  clear hb12 L10 F11
  have Y3 := Lib.hid hY3
  clear hY3
  have k0 := (F12.out.top).cell 0
  have k1 := (F12.out.top).cell 1
  have kz := (F12.out.top).lt
  go_wp2_with fail
  refine (Ints_same [10000, 8000, 0] gc.A (some ⟨_, 0, none⟩) gc.c 3 (by simp [maxLen]) _ (Lies.new Y1.out _) (fs_alloc (l := [10000, 8000, 0]) rfl (by simp [maxLen]))).mono ?_
  rintro e w13 ⟨rfl, hb13⟩
  have F13 := Lib.hid (Fr.call (Fr.new F12.out (.cells #[.int .i64 10000, .int .i64 8000, .int .i64 0] 3)) hb13)
  have Y2 := Lib.hid (Lies.call (Lies.new Y2.out (.cells #[.int .i64 10000, .int .i64 8000, .int .i64 0] 3)) hb13)
  have Y3 := Lib.hid (Lies.call (Lies.new Y3.out (.cells #[.int .i64 10000, .int .i64 8000, .int .i64 0] 3)) hb13)
  clear hb13 k0 k1 kz F12 Y1
  have k0 := (F13.out.top).cell 0
  have k1 := (F13.out.top).cell 1
  have kz := (F13.out.top).lt
  go_wp2_with fail
  refine (Ints_same [5000, 3000, 1000, 10000] gr.A (some ⟨_, 0, none⟩) gr.c 4 (by simp [maxLen]) _ (Lies.new Y2.out _) (fs_alloc (l := [5000, 3000, 1000, 10000]) rfl (by simp [maxLen]))).mono ?_
  rintro e w14 ⟨rfl, hb14⟩
  have F14 := Lib.hid (Fr.call (Fr.new F13.out (.cells #[.int .i64 5000, .int .i64 3000, .int .i64 1000, .int .i64 10000] 3)) hb14)
  have Y3 := Lib.hid (Lies.call (Lies.new Y3.out (.cells #[.int .i64 5000, .int .i64 3000, .int .i64 1000, .int .i64 10000] 3)) hb14)
  clear hb14 k0 k1 kz F13 Y2
  have k0 := (F14.out.top).cell 0
  have k1 := (F14.out.top).cell 1
  have kz := (F14.out.top).lt
  go_wp2_with fail
  refine (Ints_same [0, 8000, 8000, 10000, 0] gl.A (some ⟨_, 0, none⟩) gl.c 5 (by simp [maxLen]) _ (Lies.new Y3.out _) (fs_alloc (l := [0, 8000, 8000, 10000, 0]) rfl (by simp [maxLen]))).mono ?_
  rintro e w15 ⟨rfl, hb15⟩
  have F15 := Lib.hid (Fr.call (Fr.new F14.out (.cells #[.int .i64 0, .int .i64 8000, .int .i64 8000, .int .i64 10000, .int .i64 0] 3)) hb15)
  clear hb15 k0 k1 kz F14 Y3
  go_wp2_with fail
  go_ret
  exact ⟨rfl, F15.out.bl⟩
end Go.Proofs.Ytmjooiocgeoaiaa
