
/-
  The walk of awake: the examples of the document.
-/
import Derived.Test.YtohldmmfnjfgmaaDoorTAt
import Derived.Test.YtohldmmfnjfgmaaDoorTMod
namespace Go.Proofs.YtohldmmfnjfgmaaDoor
open Go.RowKit

def exLs : List Int := [1000, 500]
def exCs : List T3 := [⟨0, 1⟩, ⟨0, 2⟩]
def exWs : List T3 := [⟨4, 0⟩, ⟨4, 0⟩, ⟨4, 0⟩]
theorem ex_fed : Fed exLs 800 400 exCs ⟨1, 0⟩ := fed_of (by decide)
theorem ex_frc : frcV exLs 800 400 exCs ⟨1, 0⟩ = 600 := by decide +kernel
theorem ex_sts : stsV 10 exWs = [0, 4, 0] := by decide +kernel
theorem ex_lfa : (lftV 10 exWs).map T3.a = [4, -2, 2] ∧ (lftV 10 exWs).map T3.b = [0, 0, 0] := by decide +kernel
theorem ex_lft : lftV 10 exWs = [T3.mk 4 0, T3.mk (-2) 0, T3.mk 2 0] := by
  obtain ⟨h1, h2⟩ := ex_lfa
  have h3 : (lftV 10 exWs).length = 3 := lftV_len _ _
  match lftV 10 exWs, h1, h2, h3 with
  | [⟨a, b⟩, ⟨c, d⟩, ⟨e, f⟩], h1, h2, _ =>
    simp at h1 h2
    obtain ⟨rfl, rfl, rfl⟩ := h1
    obtain ⟨rfl, rfl, rfl⟩ := h2
    rfl
theorem Lies.bk6 {w : World} {g : Nat} {t : TypeId} {a b c d e f : Value} (h : Bk w g t #[a, b, c, d, e, f]) : Lies w w.heap.size (some ⟨g, 0, none⟩) [a, b, c, d, e, f] := fun j u hu => ⟨_, rfl, h.lt, h.adds j u hu⟩
theorem ForceAt_ex (w : World) (g1 g2 c d : Nat) (h1 : Lies w w.heap.size (some ⟨g1, 0, none⟩) [.int .i64 1000, .int .i64 500]) (h2 : Lies w w.heap.size (some ⟨g2, 0, none⟩) [.int .i64 0, .int .i64 1, .int .i64 0, .int .i64 2]) :
    Calls Tryd.prog 51 #[.agg #[.slice (some ⟨g1, 0, none⟩) 2 c], .agg #[.int .i64 800, .int .i64 400], .agg #[.slice (some ⟨g2, 0, none⟩) 2 d, .int .i64 1, .int .i64 0, .int .i64 0]] w fun e w' => e = .returned (.tuple #[.int .i64 600, .int .i64 0]) ∧ Below w.heap.size w w' := by
  have := ForceAt_ok exLs (some ⟨g1, 0, none⟩) c 800 400 exCs (some ⟨g2, 0, none⟩) d ⟨1, 0⟩ 0 ex_fed w h1 h2
  rw [ex_frc] at this
  exact this
def ModEx (w : World) (e : Ending) (w' : World) : Prop := ∃ (A1 : Option Addr) (c1 : Nat) (A2 : Option Addr) (c2 : Nat), e = .returned (.tuple #[.agg #[.slice A1 3 c1, .slice A2 3 c2], .int .i64 0]) ∧ Lies w' w'.heap.size A1 (ic [0, 4, 0]) ∧ Lies w' w'.heap.size A2 ([T3.mk 4 0, T3.mk (-2) 0, T3.mk 2 0].flatMap tc) ∧ Below w.heap.size w w'
theorem Modulated_ex (w : World) (hT : Tab w) (g c : Nat) (h1 : Lies w w.heap.size (some ⟨g, 0, none⟩) [.int .i64 4, .int .i64 0, .int .i64 4, .int .i64 0, .int .i64 4, .int .i64 0]) :
    Calls Tryd.prog 29 #[.int .i64 10, .slice (some ⟨g, 0, none⟩) 3 c] w (ModEx w) := by
  refine (Modulated_any 10 (by decide +kernel) exWs (some ⟨g, 0, none⟩) c (by decide +kernel) w hT h1).mono fun e w' h => ?_
  obtain ⟨⟨_, A1, c1, A2, c2, he, L1, L2⟩ | ⟨h, _⟩, hb⟩ := h
  · rw [show exWs.length = 3 from rfl] at he
    exact ⟨A1, c1, A2, c2, he, by have h := L1; rw [ex_sts] at h; exact h, by have h := L2; rw [ex_lft] at h; exact h, hb⟩
  · exact absurd h (by decide +kernel)
set_option maxHeartbeats 2000000 in
set_option maxRecDepth 100000 in
theorem awake_any (w : World) (hT : Tab w) : Calls Tryd.prog 9 #[] w fun e w' => e = .returned (.bool true) ∧ Below w.heap.size w w' := by
  have HT := Lib.hid hT
  clear hT
  go_enter Tryd.func9, Tryd.ntmps9
  go_wp2_with fail
  refine (Turned_ok ⟨0, 1⟩ 1 (by decide) (by decide) _).mono ?_
  rw [turned_one]
  rintro e w1 ⟨rfl, hb1⟩
  have F1 := Lib.hid ((Fr.call (Fr.nil w) hb1).box 24 #[.int .i64 (-1), .int .i64 0])
  have z1 := (Fr.call (Fr.nil w) hb1).size
  clear hb1
  have L1 := Lib.hid (Lies.new (Lies.bk2 (Bk.new1 w1 (.cells #[.int .i64 (-1), .int .i64 0] 24) 3 #[.int .i64 1000, .int .i64 500])) (.cells #[.int .i64 0, .int .i64 1, .int .i64 0, .int .i64 2] 24))
  have L2 := Lib.hid (Lies.bk4 (Bk.new2 w1 (.cells #[.int .i64 (-1), .int .i64 0] 24) (.cells #[.int .i64 1000, .int .i64 500] 3) 24 #[.int .i64 0, .int .i64 1, .int .i64 0, .int .i64 2]))
  go_wp2_with fail
  refine (ForceAt_ex _ _ _ _ _ L1.out L2.out).mono ?_
  rintro e w2 ⟨rfl, hb2⟩
  have F2 := Lib.hid (Fr.call ((F1.out.new (.cells #[.int .i64 1000, .int .i64 500] 3)).new (.cells #[.int .i64 0, .int .i64 1, .int .i64 0, .int .i64 2] 24)) hb2)
  clear hb2 L1 L2 F1
  have L3 := Lib.hid (Lies.bk6 (Bk.new w2 24 #[.int .i64 4, .int .i64 0, .int .i64 4, .int .i64 0, .int .i64 4, .int .i64 0]))
  have T3 := Lib.hid ((HT.out.below F2.out.bl HT.out.lt).new (.cells #[.int .i64 4, .int .i64 0, .int .i64 4, .int .i64 0, .int .i64 4, .int .i64 0] 24))
  have F3 := Lib.hid (F2.out.new (.cells #[.int .i64 4, .int .i64 0, .int .i64 4, .int .i64 0, .int .i64 4, .int .i64 0] 24))
  go_wp2_with fail
  refine (Modulated_ex _ T3.out _ _ L3.out).mono ?_
  rintro e w3 ⟨A1, c1, A2, c2, rfl, y1, y2, hb3⟩
  have F4 := Lib.hid (Fr.new (Fr.call F3.out hb3) (.cells #[.slice A1 3 c1, .slice A2 3 c2] 56))
  have Y1 := Lib.hid (Lies.new y1 (.cells #[.slice A1 3 c1, .slice A2 3 c2] 56))
  have Y2 := Lib.hid (Lies.new y2 (.cells #[.slice A1 3 c1, .slice A2 3 c2] 56))
  have N4 := Lib.hid (Bk.new w3 56 #[.slice A1 3 c1, .slice A2 3 c2])
  have z3 := (Fr.call F3.out hb3).top.lt
  obtain ⟨v0, v1, _, _⟩ := (Fr.call F3.out hb3).top.two
  clear hb3 y1 y2 F2 F3 T3 L3
  go_wp2_with fail
  refine (Ints_same [0, 4, 0] A1 (some ⟨_, 0, none⟩) c1 _ (by simp [maxLen]) _ (Lies.new Y1.out _) (Lies.bk3 (Bk.new1 w3 _ 3 #[.int .i64 0, .int .i64 4, .int .i64 0]))).mono ?_
  rintro e w5 ⟨rfl, hb5⟩
  have F5 := Lib.hid (Fr.call (F4.out.new (.cells #[.int .i64 0, .int .i64 4, .int .i64 0] 3)) hb5)
  have Y5 := Lib.hid (Lies.call (Lies.new Y2.out (.cells #[.int .i64 0, .int .i64 4, .int .i64 0] 3)) hb5)
  have N5 := Lib.hid ((N4.out.alloc (.cells #[.int .i64 0, .int .i64 4, .int .i64 0] 3)).call hb5)
  obtain ⟨p0, p1, _, _⟩ := N5.out.two
  clear hb5 v0 v1 z3
  go_wp2_with fail
  refine (Same_same [T3.mk 4 0, T3.mk (-2) 0, T3.mk 2 0] A2 (some ⟨_, 0, none⟩) c2 _ (by simp [maxLen]) _ (Lies.new Y5.out _) (Lies.bk6 (Bk.new w5 24 #[.int .i64 4, .int .i64 0, .int .i64 (-2), .int .i64 0, .int .i64 2, .int .i64 0]))).mono ?_
  rintro e w6 ⟨rfl, hb6⟩
  have F6 := Lib.hid (Fr.call (F5.out.new _) hb6)
  clear hb6
  go_wp2_with fail
  go_ret
  exact ⟨rfl, F6.out.bl⟩
end Go.Proofs.YtohldmmfnjfgmaaDoor
