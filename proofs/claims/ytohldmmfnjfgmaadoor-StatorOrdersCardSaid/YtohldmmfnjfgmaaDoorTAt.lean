
/-
  The walks of ForceAt.
-/
import Derived.Test.YtohldmmfnjfgmaaDoorTFrc
namespace Go.Proofs.YtohldmmfnjfgmaaDoor
open Go.RowKit

set_option maxHeartbeats 4000000 in
theorem ForceAt_ok (ls : List Int) (A : Option Addr) (c : Nat) (p len : Int) (cs : List T3) (C : Option Addr) (d : Nat) (fl : T3) (mv : Int) (hf : Fed ls p len cs fl) (w : World) (hA : Lies w w.heap.size A (ic ls)) (hC : Lies w w.heap.size C (cs.flatMap tc)) :
    Calls Tryd.prog 51 #[.agg #[.slice A ls.length c], .agg #[.int .i64 p, .int .i64 len], .agg #[.slice C cs.length d, .int .i64 fl.a, .int .i64 fl.b, .int .i64 mv]] w fun e w' => e = .returned (.tuple #[.int .i64 (frcV ls p len cs fl), .int .i64 0]) ∧ Below w.heap.size w w' := by
  have F0 := Lib.hid (Fr.b3 w 92 #[.slice A ls.length c] 96 #[.int .i64 p, .int .i64 len] 98 #[.slice C cs.length d, .int .i64 fl.a, .int .i64 fl.b, .int .i64 mv])
  have HA := Lib.hid ((hA.below F0.out.bl).more F0.out.size)
  have HC := Lib.hid ((hC.below F0.out.bl).more F0.out.size)
  have HF := Lib.hid hf
  clear hA hC hf
  go_enter Tryd.func51, Tryd.ntmps51
  go_wp2_with fail
  refine (checkFed_ok ls A c p len cs C d fl mv HF.out _ HA.out HC.out).mono ?_
  rintro e w1 ⟨rfl, hb1⟩
  have F1 := Lib.hid (Fr.new (F0.out.call hb1) (.cells #[.slice A ls.length c, .int .i64 (begV ls ls.length)] 123))
  have HA1 := Lib.hid (Lies.new (Lies.call HA.out hb1) (.cells #[.slice A ls.length c, .int .i64 (begV ls ls.length)] 123))
  have HC1 := Lib.hid (Lies.new (Lies.call HC.out hb1) (.cells #[.slice A ls.length c, .int .i64 (begV ls ls.length)] 123))
  have z1 := (F0.out.call hb1).top.lt
  have z2 := (F0.out.call hb1).at1.lt
  have z3 := (F0.out.call hb1).at2.lt
  obtain ⟨x0, x1, x2, x3⟩ := (F0.out.call hb1).top.four
  obtain ⟨y0, y1, _, _⟩ := (F0.out.call hb1).at1.two
  clear hb1 F0 HA HC
  go_wp2_with fail
  refine (cforce_any ls A c p len cs C d fl mv HF.out _ HA1.out HC1.out).mono ?_
  rintro e w2 ⟨rfl, hb2⟩
  have F2 := Lib.hid (F1.out.call hb2)
  clear x0 x1 x2 x3 y0 y1 z1 z2 z3 hb2
  go_wp2_with fail
  go_ret2
  exact ⟨rfl, F2.out.bl⟩

set_option maxHeartbeats 4000000 in
theorem ForceAt_bad (ls : List Int) (A : Option Addr) (c : Nat) (p len : Int) (cs : List T3) (C : Option Addr) (d : Nat) (fl : T3) (mv : Int) (hl : ls.length ≤ maxLen) (hl2 : cs.length ≤ 1000) (er : Int) (he : fedE ls p len cs fl = er) (hr : er ≠ 0) (w : World) (hA : Lies w w.heap.size A (ic ls)) (hC : Lies w w.heap.size C (cs.flatMap tc)) :
    Calls Tryd.prog 51 #[.agg #[.slice A ls.length c], .agg #[.int .i64 p, .int .i64 len], .agg #[.slice C cs.length d, .int .i64 fl.a, .int .i64 fl.b, .int .i64 mv]] w fun e w' => e = .returned (.tuple #[.int .i64 0, .int .i64 er]) ∧ Below w.heap.size w w' := by
  have F0 := Lib.hid (Fr.b3 w 92 #[.slice A ls.length c] 96 #[.int .i64 p, .int .i64 len] 98 #[.slice C cs.length d, .int .i64 fl.a, .int .i64 fl.b, .int .i64 mv])
  have HA := Lib.hid ((hA.below F0.out.bl).more F0.out.size)
  have HC := Lib.hid ((hC.below F0.out.bl).more F0.out.size)
  have HE := Lib.hid he
  have HR := Lib.hid hr
  have ge : (er != 0) = true := by simp [hr]
  clear hA hC he hr
  go_enter Tryd.func51, Tryd.ntmps51
  go_wp2_with fail
  refine (checkFed_bad ls A c p len cs C d fl mv hl hl2 er HE.out HR.out _ HA.out HC.out).mono ?_
  rintro e w1 ⟨rfl, hb1⟩
  have B1 := Lib.hid (Below.new (F0.out.call hb1).bl (.cells #[.slice none 0 0, .int .i64 0] 123))
  clear hb1
  go_wp2_with fail
  go_ret2
  exact ⟨rfl, B1.out⟩

set_option maxHeartbeats 2000000 in
theorem Ints_same (l : List Int) (A B : Option Addr) (c d : Nat) (hl : l.length ≤ maxLen) (w : World) (hA : Lies w w.heap.size A (ic l)) (hB : Lies w w.heap.size B (ic l)) :
    Calls Tryd.prog 33 #[.slice A l.length c, .slice B l.length d] w fun e w' => e = .returned (.bool true) ∧ Below w.heap.size w w' := by
  unfold maxLen at hl
  have HA := Lib.hid hA
  have HB := Lib.hid hB
  have B0 := Lib.hid (Below.refl w.heap.size w)
  clear hA hB
  go_enter Tryd.func33, Tryd.ntmps33
  go_wp2_with fail
  go_loopw [5] (fun i wr => ∃ k : Nat, k ≤ l.length ∧ i = .int .i64 k ∧ Below w.heap.size w wr) (fun i _ => l.length - (intOf i).toNat)
  case atStart => exact ⟨0, Nat.zero_le _, rfl, B0.out⟩
  case round =>
    obtain ⟨k, hk, rfl, hb⟩ := hrel
    have HW := Lib.hid hb
    have HA1 := Lib.hid (HA.out.below hb)
    have HB1 := Lib.hid (HB.out.below hb)
    clear hb B0
    by_cases hlt : k < l.length
    · obtain ⟨a, rfl, _, ca⟩ := HA1.out.num (List.getElem?_eq_getElem hlt)
      obtain ⟨b, rfl, _, cb⟩ := HB1.out.num (List.getElem?_eq_getElem hlt)
      go_wp2_with fail
      go_region
      all_goals
        go_wp2_with fail
        go_roundw
        case rel => exact ⟨k + 1, by omega, by go_num, HW.out.drew⟩
        case measure => simp [intOf]; omega
    · obtain rfl : k = l.length := by omega
      go_wp2_with fail
      go_ret
      exact ⟨rfl, HW.out⟩

set_option maxHeartbeats 2000000 in
theorem Same_same (l : List T3) (A B : Option Addr) (c d : Nat) (hl : l.length ≤ maxLen) (w : World) (hA : Lies w w.heap.size A (l.flatMap tc)) (hB : Lies w w.heap.size B (l.flatMap tc)) :
    Calls Tryd.prog 34 #[.slice A l.length c, .slice B l.length d] w fun e w' => e = .returned (.bool true) ∧ Below w.heap.size w w' := by
  unfold maxLen at hl
  have HA := Lib.hid hA
  have HB := Lib.hid hB
  have B0 := Lib.hid (Below.refl w.heap.size w)
  clear hA hB
  go_enter Tryd.func34, Tryd.ntmps34
  go_wp2_with fail
  go_loopw [5] (fun i wr => ∃ k : Nat, k ≤ l.length ∧ i = .int .i64 k ∧ Below w.heap.size w wr) (fun i _ => l.length - (intOf i).toNat)
  case atStart => exact ⟨0, Nat.zero_le _, rfl, B0.out⟩
  case round =>
    obtain ⟨k, hk, rfl, hb⟩ := hrel
    have HW := Lib.hid hb
    have HA1 := Lib.hid (HA.out.below hb)
    have HB1 := Lib.hid (HB.out.below hb)
    clear hb B0
    by_cases hlt : k < l.length
    · obtain ⟨a, rfl, _, ca, ca'⟩ := HA1.out.third (List.getElem?_eq_getElem hlt)
      obtain ⟨b, rfl, _, cb, cb'⟩ := HB1.out.third (List.getElem?_eq_getElem hlt)
      go_wp2_with fail
      go_region
      all_goals
        go_wp2_with fail
        go_roundw
        case rel => exact ⟨k + 1, by omega, by go_num, HW.out.drew⟩
        case measure => simp [intOf]; omega
    · obtain rfl : k = l.length := by omega
      go_wp2_with fail
      go_ret
      exact ⟨rfl, HW.out⟩
end Go.Proofs.YtohldmmfnjfgmaaDoor
