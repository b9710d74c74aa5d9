
/-
  The walk of awake: the examples of the document.
-/
import Derived.Test.YtaghpemdcmjchaaBStd
import Derived.Test.YtaghpemdcmjchaaBFst
import Derived.Test.YtaghpemdcmjchaaBRnA
namespace Go.Proofs.Ytaghpemdcmjchaa
open Go.RowKit

set_option maxHeartbeats 2000000 in
theorem Ints_same (l : List Int) (A B : Option Addr) (c d : Nat) (hl : l.length ≤ maxLen) (w : World) (hA : Lies w w.heap.size A (ic l)) (hB : Lies w w.heap.size B (ic l)) :
    Calls Try.prog 13 #[.slice A l.length c, .slice B l.length d] w fun e w' => e = .returned (.bool true) ∧ Below w.heap.size w w' := by
  unfold maxLen at hl
  have HA := Lib.hid hA
  have HB := Lib.hid hB
  have B0 := Lib.hid (Below.refl w.heap.size w)
  clear hA hB
  go_enter Try.func13, Try.ntmps13
  go_wp2_with fail
  go_loopw [5] (fun i wr => ∃ k : Nat, k ≤ l.length ∧ i = .int .i64 k ∧ Below w.heap.size w wr) (fun i _ => l.length - (intOf i).toNat)
  case atStart => exact ⟨0, Nat.zero_le _, rfl, B0.out⟩
  case round =>
    obtain ⟨k, hk, rfl, hb⟩ := hrel
    have HW := Lib.hid hb
    have HA1 := Lib.hid (HA.out.below hb)
    have HB1 := Lib.hid (HB.out.below hb)
    clear hb B0
    by_cases hlt : k < l.length
    · obtain ⟨a, rfl, _, ca⟩ := HA1.out.num (List.getElem?_eq_getElem hlt)
      obtain ⟨b, rfl, _, cb⟩ := HB1.out.num (List.getElem?_eq_getElem hlt)
      go_wp2_with fail
      go_region
      all_goals
        go_wp2_with fail
        go_roundw
        case rel => exact ⟨k + 1, by omega, by go_num, HW.out.drew⟩
        case measure => simp [intOf]; omega
    · obtain rfl : k = l.length := by omega
      go_wp2_with fail
      go_ret
      exact ⟨rfl, HW.out⟩

def exS : ByteArray := ⟨#[116]⟩
def exPs : List Bp := [⟨100, 0, 10000, false⟩, ⟨100, 0, 8000, true⟩, ⟨50, -10, 10000, false⟩, ⟨200, 0, 10000, true⟩]
def exB : Bs := ⟨100, 10, 50⟩
theorem ex_ok : OkT exS exPs := ⟨by decide +kernel, by decide, by decide, by decide +kernel⟩
theorem ex_sys : sE exB = 0 := by decide +kernel
theorem ex_oks : OkS exB := sE_zero ex_sys
theorem ex_curve : listF ((1 : Int).toNat + 2) (crvV exPs exB.brk (1 : Int).toNat) = [10000, 8000, 0] := by decide +kernel
theorem ex_run : runE exPs exB 3 0 5000 = 0 ∧ listF (3 - 0 + 1) (runV exPs exB 3 0 5000) = [5000, 3000, 1000, 10000] := by decide +kernel
theorem ex_fast : listF (exPs.length + 1) (fwV exPs exB 0 0) = [0, 8000, 8000, 10000, 0] := by decide +kernel
/-- A slice of these numbers, and no error. -/
def ExRow (w : World) (l : List Int) (n : Nat) (e : Ending) (w' : World) : Prop := ∃ g : Hd, e = .returned (.tuple #[.slice g.A n g.c, .int .i64 0]) ∧ Lies w' w'.heap.size g.A (ic l) ∧ Below w.heap.size w w'
theorem ex_row {w : World} {l l' : List Int} {er : Int} (he : er = 0) (hl : l = l') {e : Ending} {w' : World} (h : RowE w l er e w') : ExRow w l' l'.length e w' := by
  subst he
  subst hl
  obtain ⟨g, rfl, hL, hb⟩ := h
  exact ⟨g, by rw [if_pos rfl], hL rfl, hb⟩
theorem CurveOf_ex (w : World) (g : Nat) (h : Lies w w.heap.size (some ⟨g, 0, none⟩) (exPs.flatMap pc)) : Calls Try.prog 12 #[.agg #[.string ⟨#[116]⟩, .slice (some ⟨g, 0, none⟩) 4 4], .agg #[.int .i64 100, .int .i64 10, .int .i64 50], .int .i64 1] w (ExRow w [10000, 8000, 0] 3) :=
  (CurveOf_ok exS (by decide +kernel) exPs ⟨g, 0, none⟩ 4 (by decide) exB 1 ex_ok ex_oks ex_sys (by decide +kernel) w h).mono fun _ _ h => ex_row rfl ex_curve h
theorem RunTo_ex (w : World) (g : Nat) (h : Lies w w.heap.size (some ⟨g, 0, none⟩) (exPs.flatMap pc)) : Calls Try.prog 14 #[.agg #[.string ⟨#[116]⟩, .slice (some ⟨g, 0, none⟩) 4 4], .agg #[.int .i64 100, .int .i64 10, .int .i64 50], .agg #[.int .i64 0, .int .i64 5000], .int .i64 3] w (ExRow w [5000, 3000, 1000, 10000] 4) :=
  (RunTo_ok exS (by decide +kernel) exPs ⟨g, 0, none⟩ 4 (by decide) exB ex_ok ex_oks ex_sys 3 0 (by decide) (by decide +kernel) (by decide) 5000 (by decide) w h).mono fun _ _ h => ex_row ex_run.1 ex_run.2 h
end Go.Proofs.Ytaghpemdcmjchaa
