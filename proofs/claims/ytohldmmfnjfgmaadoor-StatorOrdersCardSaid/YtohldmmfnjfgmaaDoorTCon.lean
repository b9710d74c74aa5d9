
/-
  The walks of the converter's states: what a state leaves, the nearest one.
-/
import Derived.Test.YtohldmmfnjfgmaaDoorTSec2
import Derived.Test.YtohldmmfnjfgmaaDoorTPm
import Derived.Test.YtohldmmfnjfgmaaDoorOwn
namespace Go.Proofs.YtohldmmfnjfgmaaDoor
open Go.RowKit

/-- The table of the states' vectors lies where the program's text lays it. -/
def Tab (w : World) : Prop := ∀ s : Nat, s < 8 → w.cell? ⟨0, s * 2, none⟩ = some (.int .i64 (stV s).a) ∧ w.cell? ⟨0, s * 2 + 1, none⟩ = some (.int .i64 (stV s).b)
theorem Tab.lt {w : World} (h : Tab w) : 0 < w.heap.size := cell_lt (h 0 (by omega)).1
theorem Tab.below {w w' : World} {B : Nat} (h : Tab w) (hb : Below B w w') (hB : 0 < B) : Tab w' := fun s hs => ⟨(hb.cell (p := ⟨0, s * 2, none⟩) hB).trans (h s hs).1, (hb.cell (p := ⟨0, s * 2 + 1, none⟩) hB).trans (h s hs).2⟩
theorem Tab.call {w w' : World} (h : Tab w) (hb : Below w.heap.size w w') : Tab w' := h.below hb h.lt
theorem Tab.new {w : World} (h : Tab w) (o : Obj) : Tab (w.alloc o) := h.call ((Below.refl _ w).alloc (Nat.le_refl _) o)

set_option maxHeartbeats 1000000 in
theorem StateVector_ok (s : Nat) (hs : s < 8) (w : World) (hT : Tab w) : Calls Tryd.prog 20 #[.int .i64 s] w fun e w' => e = .returned (.tuple #[.agg #[.int .i64 (stV s).a, .int .i64 (stV s).b], .int .i64 0]) ∧ Below w.heap.size w w' := by
  have HT := Lib.hid (hT.new (.cells #[.int .i64 0, .int .i64 0] 24))
  obtain ⟨c0, c1⟩ := HT.out s hs
  have hw : Hid (inB (s : Int) 0 7 = true) := Lib.hid (by simp [inB]; omega)
  have h7 : (s : Int) < 8 := by omega
  clear hT
  go_enter Tryd.func20, Tryd.ntmps20
  go_wp2_with (go_at_call 60; refine (within_any _ _ _ _).mono ?_; rintro e w' ⟨rfl, rfl⟩; rw [hw.out])
  exact bodyPost_ret (v := .tuple #[.agg #[.int .i64 (stV s).a, .int .i64 (stV s).b], .int .i64 0]) (by simp [results, Tryd.results20, go_sem]) rfl ⟨rfl, (by repeat (first | exact box1 w _ _ | refine Below.drew ?_ | refine Below.setCell ?_ (by first | (simp; done) | (simp; omega) | omega) _ | refine Below.alloc ?_ (by first | (simp; done) | (simp; omega) | omega) _ | exact Below.refl _ _))⟩
theorem StateVector_bad (s : Int) (hs : inB s 0 7 = false) (w : World) : Calls Tryd.prog 20 #[.int .i64 s] w fun e w' => e = .returned (.tuple #[.agg #[.int .i64 0, .int .i64 0], .int .i64 2]) ∧ Below w.heap.size w w' := by
  have hw := Lib.hid hs
  clear hs
  go_enter Tryd.func20, Tryd.ntmps20
  go_wp2_with (go_at_call 60; refine (within_any _ _ _ _).mono ?_; rintro e w' ⟨rfl, rfl⟩; rw [hw.out])
  exact bodyPost_ret (v := .tuple #[.agg #[.int .i64 0, .int .i64 0], .int .i64 2]) (by simp [results, Tryd.results20, go_sem]) rfl ⟨rfl, (by repeat (first | exact box1 w _ _ | refine Below.drew ?_ | refine Below.setCell ?_ (by first | (simp; done) | (simp; omega) | omega) _ | refine Below.alloc ?_ (by first | (simp; done) | (simp; omega) | omega) _ | exact Below.refl _ _))⟩

theorem stV_bd (s : Nat) : (T3.mk (stV s).a (stV s).b).Bd 1 := by
  obtain ⟨⟨h1, h2⟩, h3, h4⟩ := stV_in s
  exact ⟨h1, h2, h3, h4⟩
theorem wout_sub (M : Int) (v : T3) (s : Nat) : v.sub (T3.scl M ⟨(stV s).a, (stV s).b⟩) = wout M v s := rfl

set_option maxHeartbeats 2000000 in
set_option maxRecDepth 100000 in
theorem without_any (M : Int) (hM : 0 ≤ M ∧ M ≤ 100000) (v : T3) (hv : v.Bd 1000000000) (s : Nat) (hs : s < 8) (w : World) (hT : Tab w) : Calls Tryd.prog 70 #[.int .i64 M, (.agg #[.int .i64 v.a, .int .i64 v.b]), .int .i64 s] w fun e w' => e = .returned (.agg #[.int .i64 (wout M v s).a, .int .i64 (wout M v s).b]) ∧ Below w.heap.size w w' := by
  have HV := Lib.hid (hv.more (K := 4000000000000000000) (by omega))
  have HS := Lib.hid ((stV_bd s).more (K := 1000000000) (by omega))
  have HSC : Hid ((T3.scl M ⟨(stV s).a, (stV s).b⟩).Bd 4000000000000000000) := Lib.hid (by
    obtain ⟨⟨a0, a1⟩, b0, b1⟩ := stV_in s
    have := scl_in hM.1 a0 a1
    have := scl_in hM.1 b0 b1
    exact ⟨by simp only [T3.scl]; omega, by simp only [T3.scl]; omega, by simp only [T3.scl]; omega, by simp only [T3.scl]; omega⟩)
  have HM : Hid (-1000000000 ≤ M ∧ M ≤ 1000000000) := Lib.hid (by omega)
  have F0 := Lib.hid (Fr.b1 w 24 #[.int .i64 v.a, .int .i64 v.b])
  have N0 := Lib.hid (Bk.new1 w (.cells #[.int .i64 v.a, .int .i64 v.b] 24) 24 #[.int .i64 0, .int .i64 0])
  have HT := Lib.hid hT
  have h8 : (s : Int) < 8 := by omega
  clear hv hM hT
  go_enter Tryd.func70, Tryd.ntmps70
  go_wp2_with fail
  refine wp_abs ?_
  intro w3 h3
  have F3 : Fr w w3 [(w.heap.size, 24, #[.int .i64 v.a, .int .i64 v.b])] := by subst h3; exact F0.out.new _
  have N3 : Hid (Bk w3 (w.heap.size + 1) 24 #[.int .i64 0, .int .i64 0]) := Lib.hid (by subst h3; exact N0.out)
  have HALL : Hid (∀ W, Fr w W [(w.heap.size, 24, #[.int .i64 v.a, .int .i64 v.b])] → Fr w W [(w.heap.size, 24, #[.int .i64 v.a, .int .i64 v.b])] ∧ W.cell? ⟨w.heap.size, 0, none⟩ = some (.int .i64 v.a) ∧ W.cell? ⟨w.heap.size, 1, none⟩ = some (.int .i64 v.b) ∧ W.cell? ⟨0, s * 2, none⟩ = some (.int .i64 (stV s).a) ∧ W.cell? ⟨0, s * 2 + 1, none⟩ = some (.int .i64 (stV s).b)) := Lib.hid (fun W hW => ⟨hW, hW.top.cell 0, hW.top.cell 1, (HT.out.below hW.bl HT.out.lt s hs).1, (HT.out.below hW.bl HT.out.lt s hs).2⟩)
  clear h3 F0 N0
  go_region_held3 (fun W => Fr w W [(w.heap.size, 24, #[.int .i64 v.a, .int .i64 v.b])] ∧ W.cell? ⟨w.heap.size, 0, none⟩ = some (.int .i64 v.a) ∧ W.cell? ⟨w.heap.size, 1, none⟩ = some (.int .i64 v.b) ∧ W.cell? ⟨0, s * 2, none⟩ = some (.int .i64 (stV s).a) ∧ W.cell? ⟨0, s * 2 + 1, none⟩ = some (.int .i64 (stV s).b))
    ((go_split_ands; refine HALL.out _ ?_; (first | assumption | (repeat (first | assumption | refine Fr.new ?_ _ | refine Fr.drew ?_ | (refine Fr.set ?_ (by first | exact Nat.le_refl _ | omega | (simp; done) | (simp; omega)) (by first | (simp; done) | (simp; omega)) _))); done)))
    ((first
      | (go_at_call 87; go_split_ands; (with_reducible refine (scaled_any M ⟨(stV s).a, (stV s).b⟩ HM.out HS.out _).mono ?_); rintro e w1 ⟨rfl, hb1⟩; have F4 := Fr.call (by assumption) hb1; have N4 : Bk w1 (w.heap.size + 1) 24 #[.int .i64 0, .int .i64 0] := (by first | exact Bk.call N3.out hb1 | exact Bk.call (Bk.drew N3.out) hb1); obtain ⟨n0, n1, n2, n3⟩ := N4.two; have N5 := Lib.hid N4; clear hb1 N4)
      | (go_at_call 77; go_split_ands; (with_reducible refine (minus_any v (T3.scl M ⟨(stV s).a, (stV s).b⟩) HV.out HSC.out _).mono ?_); rintro e w1 ⟨rfl, hb1⟩; have F4 := Fr.call (by assumption) hb1; have N4 : Bk w1 (w.heap.size + 1) 24 #[.int .i64 0, .int .i64 0] := (by first | exact Bk.call N5.out hb1 | exact Bk.call (Bk.drew N5.out) hb1); obtain ⟨n0, n1, n2, n3⟩ := N4.two; have N6 := Lib.hid N4; clear hb1 N4)
      | fail "arm"))
  all_goals
    go_split_ands
    go_wp2_with fail
    exact bodyPost_ret (v := (.agg #[.int .i64 (v.sub (T3.scl M ⟨(stV s).a, (stV s).b⟩)).a, .int .i64 (v.sub (T3.scl M ⟨(stV s).a, (stV s).b⟩)).b])) (by simp [results, Tryd.results70, go_sem, n0, n1]) rfl ⟨rfl, (by assumption : Fr w _ _).bl⟩
end Go.Proofs.YtohldmmfnjfgmaaDoor
