
/-
  The walks of what a train gains and loses along a piece, and of the curves and the least squares, the program's and the reference's.
-/
import Derived.Test.YtaghpemdcmjchaaBLim
namespace Go.Proofs.Ytaghpemdcmjchaa
open Go.RowKit

set_option maxHeartbeats 4000000 in
set_option maxRecDepth 100000 in
theorem slope_any (s : ByteArray) (ps : List Bp) (a : Addr) (c : Nat) (h12 : ps.length ≤ 12) (hx : ∀ p ∈ ps, okP p = true) (k : Nat) (hk : k < ps.length) (w : World) (hA : Lies w w.heap.size (some a) (ps.flatMap pc)) :
    Calls Try.prog 48 #[.agg #[.string s, .slice (some a) ps.length c], .int .i64 k] w fun e w' => e = .returned (.int .i64 (10 * (gp ps k).grad)) ∧ Below w.heap.size w w' := by
  have F0 := Lib.hid (Fr.b1 w 57 #[.string s, .slice (some a) ps.length c])
  obtain ⟨a2, ea, _, c0, c1, c2, c3⟩ := (Fr.lies hA F0.out).piece (gp_at (i := k) (by omega))
  simp only [Option.some.injEq] at ea
  subst ea
  have hp := okP_iff.1 (gp_ok hx k)
  obtain ⟨p, hp2⟩ : ∃ p, gp ps k = p := ⟨_, rfl⟩
  rw [hp2] at c0 c1 c2 c3 hp
  rw [hp2]
  have g0 := hp.2.1.1
  have g1 := hp.2.1.2
  have hk' : (k : Int) < (ps.length : Int) := by omega
  clear hA hx hp2 hp hk
  go_enter Try.func48, Try.ntmps48
  go_wp2_with fail
  go_ret
  exact ⟨rfl, F0.out.bl⟩

set_option maxHeartbeats 4000000 in
set_option maxRecDepth 100000 in
theorem change_any (s : ByteArray) (ps : List Bp) (a : Addr) (c : Nat) (h12 : ps.length ≤ 12) (hx : ∀ p ∈ ps, okP p = true) (k : Nat) (hk : k < ps.length) (d : Int) (hd : -5000 ≤ d ∧ d ≤ 5000) (w : World) (hA : Lies w w.heap.size (some a) (ps.flatMap pc)) :
    Calls Try.prog 46 #[.agg #[.string s, .slice (some a) ps.length c], .int .i64 k, .int .i64 d] w fun e w' => e = .returned (.int .i64 (2 * d * (gp ps k).len)) ∧ Below w.heap.size w w' := by
  have F0 := Lib.hid (Fr.b1 w 57 #[.string s, .slice (some a) ps.length c])
  obtain ⟨a2, ea, _, c0, c1, c2, c3⟩ := (Fr.lies hA F0.out).piece (gp_at (i := k) (by omega))
  simp only [Option.some.injEq] at ea
  subst ea
  have hp := okP_iff.1 (gp_ok hx k)
  obtain ⟨p, hp2⟩ : ∃ p, gp ps k = p := ⟨_, rfl⟩
  rw [hp2] at c0 c1 c2 c3 hp
  rw [hp2]
  have g0 := hp.1.1
  have g1 := hp.1.2
  have hm := mulB5 (x := 2 * d) (y := p.len) (A := 10000) (B := 10000000) (by omega) (by omega)
  have hw := IntWalk.i64_in (2 * d * p.len) (by omega)
  have hk' : (k : Int) < (ps.length : Int) := by omega
  obtain ⟨d0, d1⟩ := hd
  clear hA hx hp2 hp hk hm
  go_enter Try.func46, Try.ntmps46
  go_wp2_with fail
  go_ret
  exact ⟨rfl, F0.out.bl⟩

set_option maxHeartbeats 4000000 in
set_option maxRecDepth 100000 in
theorem deceleration_any (s : ByteArray) (ps : List Bp) (a : Addr) (c : Nat) (b : Bs) (hb : OkS b) (h12 : ps.length ≤ 12) (hx : ∀ p ∈ ps, okP p = true) (k : Nat) (hk : k < ps.length) (w : World) (hA : Lies w w.heap.size (some a) (ps.flatMap pc)) :
    Calls Try.prog 47 #[.agg #[.string s, .slice (some a) ps.length c, .int .i64 b.brk, .int .i64 b.drag, .int .i64 b.drv], .int .i64 k] w fun e w' => e = .returned (.int .i64 (b.brk + 10 * (gp ps k).grad)) ∧ Below w.heap.size w w' := by
  have F0 := Lib.hid (Fr.b1 w 64 #[.string s, .slice (some a) ps.length c, .int .i64 b.brk, .int .i64 b.drag, .int .i64 b.drv])
  have HA := Lib.hid hA
  have HX := Lib.hid hx
  have hp := okP_iff.1 (gp_ok hx k)
  have g2 := hp.2.1.1
  have g3 := hp.2.1.2
  obtain ⟨b0, b1, b2, b3, b4, b5, _⟩ := hb
  have hw := IntWalk.i64_in (b.brk + 10 * (gp ps k).grad) (by omega)
  clear hA hx hp
  go_enter Try.func47, Try.ntmps47
  go_wp2_with fail
  have HALL : Hid (∀ W, Fr w W [(w.heap.size, 64, #[.string s, .slice (some a) ps.length c, .int .i64 b.brk, .int .i64 b.drag, .int .i64 b.drv])] → Fr w W [(w.heap.size, 64, #[.string s, .slice (some a) ps.length c, .int .i64 b.brk, .int .i64 b.drag, .int .i64 b.drv])] ∧ W.cell? ⟨w.heap.size, 0, none⟩ = some (.string s) ∧ W.cell? ⟨w.heap.size, 1, none⟩ = some (.slice (some a) ps.length c) ∧ W.cell? ⟨w.heap.size, 2, none⟩ = some (.int .i64 b.brk) ∧ W.cell? ⟨w.heap.size, 3, none⟩ = some (.int .i64 b.drag) ∧ W.cell? ⟨w.heap.size, 4, none⟩ = some (.int .i64 b.drv)) := Lib.hid (fun W hW => ⟨hW, hW.top.cell 0, hW.top.cell 1, hW.top.cell 2, hW.top.cell 3, hW.top.cell 4⟩)
  have F10 : Fr w _ [(w.heap.size, 64, #[.string s, .slice (some a) ps.length c, .int .i64 b.brk, .int .i64 b.drag, .int .i64 b.drv])] := F0.out
  clear F0
  go_region_held3 (fun W => Fr w W [(w.heap.size, 64, #[.string s, .slice (some a) ps.length c, .int .i64 b.brk, .int .i64 b.drag, .int .i64 b.drv])] ∧ W.cell? ⟨w.heap.size, 0, none⟩ = some (.string s) ∧ W.cell? ⟨w.heap.size, 1, none⟩ = some (.slice (some a) ps.length c) ∧ W.cell? ⟨w.heap.size, 2, none⟩ = some (.int .i64 b.brk) ∧ W.cell? ⟨w.heap.size, 3, none⟩ = some (.int .i64 b.drag) ∧ W.cell? ⟨w.heap.size, 4, none⟩ = some (.int .i64 b.drv))
      ((go_split_ands; refine HALL.out _ ?_; (first | assumption | (repeat (first | assumption | refine Fr.new ?_ _ | refine Fr.drew ?_ | (refine Fr.set ?_ (by first | exact Nat.le_refl _ | omega | (simp; done) | (simp; omega)) (by first | (simp; done) | (simp; omega)) _))); done)))
      ((first
        | (go_at_call 48; go_split_ands; (with_reducible refine (slope_any s ps a c h12 HX.out k hk _ (Fr.lies HA.out (by assumption))).mono ?_); rintro e w1 ⟨rfl, hb1⟩; have F4 := Fr.call (by assumption) hb1; clear hb1)
        | fail "arm"))
  all_goals
    go_split_ands
    go_wp2_with fail
    go_ret
    exact ⟨by first | rfl | (unfold lossV; rfl), (by assumption : Fr w _ [(w.heap.size, 64, #[.string s, .slice (some a) ps.length c, .int .i64 b.brk, .int .i64 b.drag, .int .i64 b.drv])]).bl⟩

set_option maxHeartbeats 4000000 in
set_option maxRecDepth 100000 in
theorem braked_any (s : ByteArray) (ps : List Bp) (a : Addr) (c : Nat) (b : Bs) (hb : OkS b) (h12 : ps.length ≤ 12) (hx : ∀ p ∈ ps, okP p = true) (k : Nat) (hk : k < ps.length) (w : World) (hA : Lies w w.heap.size (some a) (ps.flatMap pc)) :
    Calls Try.prog 38 #[.agg #[.string s, .slice (some a) ps.length c, .int .i64 b.brk, .int .i64 b.drag, .int .i64 b.drv], .int .i64 k] w fun e w' => e = .returned (.int .i64 (lossV (gp ps k) b.brk)) ∧ Below w.heap.size w w' := by
  have F0 := Lib.hid (Fr.b1 w 64 #[.string s, .slice (some a) ps.length c, .int .i64 b.brk, .int .i64 b.drag, .int .i64 b.drv])
  have HA := Lib.hid hA
  have HX := Lib.hid hx
  have hp := okP_iff.1 (gp_ok hx k)
  have g2 := hp.2.1.1
  have g3 := hp.2.1.2
  have HB := Lib.hid hb
  obtain ⟨b0, b1, b2, b3, b4, b5, _⟩ := hb
  clear hA hx hp
  go_enter Try.func38, Try.ntmps38
  go_wp2_with fail
  have HALL : Hid (∀ W, Fr w W [(w.heap.size, 64, #[.string s, .slice (some a) ps.length c, .int .i64 b.brk, .int .i64 b.drag, .int .i64 b.drv])] → Fr w W [(w.heap.size, 64, #[.string s, .slice (some a) ps.length c, .int .i64 b.brk, .int .i64 b.drag, .int .i64 b.drv])] ∧ W.cell? ⟨w.heap.size, 0, none⟩ = some (.string s) ∧ W.cell? ⟨w.heap.size, 1, none⟩ = some (.slice (some a) ps.length c) ∧ W.cell? ⟨w.heap.size, 2, none⟩ = some (.int .i64 b.brk) ∧ W.cell? ⟨w.heap.size, 3, none⟩ = some (.int .i64 b.drag) ∧ W.cell? ⟨w.heap.size, 4, none⟩ = some (.int .i64 b.drv)) := Lib.hid (fun W hW => ⟨hW, hW.top.cell 0, hW.top.cell 1, hW.top.cell 2, hW.top.cell 3, hW.top.cell 4⟩)
  have F10 : Fr w _ [(w.heap.size, 64, #[.string s, .slice (some a) ps.length c, .int .i64 b.brk, .int .i64 b.drag, .int .i64 b.drv])] := F0.out
  clear F0
  go_region_held3 (fun W => Fr w W [(w.heap.size, 64, #[.string s, .slice (some a) ps.length c, .int .i64 b.brk, .int .i64 b.drag, .int .i64 b.drv])] ∧ W.cell? ⟨w.heap.size, 0, none⟩ = some (.string s) ∧ W.cell? ⟨w.heap.size, 1, none⟩ = some (.slice (some a) ps.length c) ∧ W.cell? ⟨w.heap.size, 2, none⟩ = some (.int .i64 b.brk) ∧ W.cell? ⟨w.heap.size, 3, none⟩ = some (.int .i64 b.drag) ∧ W.cell? ⟨w.heap.size, 4, none⟩ = some (.int .i64 b.drv))
      ((go_split_ands; refine HALL.out _ ?_; (first | assumption | (repeat (first | assumption | refine Fr.new ?_ _ | refine Fr.drew ?_ | (refine Fr.set ?_ (by first | exact Nat.le_refl _ | omega | (simp; done) | (simp; omega)) (by first | (simp; done) | (simp; omega)) _))); done)))
      ((first
        | (go_at_call 47; go_split_ands; (with_reducible refine (deceleration_any s ps a c b HB.out h12 HX.out k hk _ (Fr.lies HA.out (by assumption))).mono ?_); rintro e w1 ⟨rfl, hb1⟩; have F4 := Fr.call (by assumption) hb1; clear hb1)
        | (go_at_call 46; go_split_ands; (with_reducible refine (change_any s ps a c h12 HX.out k hk (b.brk + 10 * (gp ps k).grad) (by omega) _ (Fr.lies HA.out (by assumption))).mono ?_); rintro e w1 ⟨rfl, hb1⟩; have F5 := Fr.call (by assumption) hb1; clear hb1)
        | fail "arm"))
  all_goals
    go_split_ands
    go_wp2_with fail
    go_ret
    exact ⟨by first | rfl | (unfold lossV; rfl), (by assumption : Fr w _ [(w.heap.size, 64, #[.string s, .slice (some a) ps.length c, .int .i64 b.brk, .int .i64 b.drag, .int .i64 b.drv])]).bl⟩

set_option maxHeartbeats 4000000 in
set_option maxRecDepth 100000 in
theorem coasted_any (s : ByteArray) (ps : List Bp) (a : Addr) (c : Nat) (b : Bs) (hb : OkS b) (h12 : ps.length ≤ 12) (hx : ∀ p ∈ ps, okP p = true) (k : Nat) (hk : k < ps.length) (w : World) (hA : Lies w w.heap.size (some a) (ps.flatMap pc)) :
    Calls Try.prog 41 #[.agg #[.string s, .slice (some a) ps.length c, .int .i64 b.brk, .int .i64 b.drag, .int .i64 b.drv], .int .i64 k] w fun e w' => e = .returned (.int .i64 (lossV (gp ps k) b.drag)) ∧ Below w.heap.size w w' := by
  have F0 := Lib.hid (Fr.b1 w 64 #[.string s, .slice (some a) ps.length c, .int .i64 b.brk, .int .i64 b.drag, .int .i64 b.drv])
  have HA := Lib.hid hA
  have HX := Lib.hid hx
  have hp := okP_iff.1 (gp_ok hx k)
  have g2 := hp.2.1.1
  have g3 := hp.2.1.2
  obtain ⟨b0, b1, b2, b3, b4, b5, _⟩ := hb
  have hw := IntWalk.i64_in (b.drag + 10 * (gp ps k).grad) (by omega)
  clear hA hx hp
  go_enter Try.func41, Try.ntmps41
  go_wp2_with fail
  have HALL : Hid (∀ W, Fr w W [(w.heap.size, 64, #[.string s, .slice (some a) ps.length c, .int .i64 b.brk, .int .i64 b.drag, .int .i64 b.drv])] → Fr w W [(w.heap.size, 64, #[.string s, .slice (some a) ps.length c, .int .i64 b.brk, .int .i64 b.drag, .int .i64 b.drv])] ∧ W.cell? ⟨w.heap.size, 0, none⟩ = some (.string s) ∧ W.cell? ⟨w.heap.size, 1, none⟩ = some (.slice (some a) ps.length c) ∧ W.cell? ⟨w.heap.size, 2, none⟩ = some (.int .i64 b.brk) ∧ W.cell? ⟨w.heap.size, 3, none⟩ = some (.int .i64 b.drag) ∧ W.cell? ⟨w.heap.size, 4, none⟩ = some (.int .i64 b.drv)) := Lib.hid (fun W hW => ⟨hW, hW.top.cell 0, hW.top.cell 1, hW.top.cell 2, hW.top.cell 3, hW.top.cell 4⟩)
  have F10 : Fr w _ [(w.heap.size, 64, #[.string s, .slice (some a) ps.length c, .int .i64 b.brk, .int .i64 b.drag, .int .i64 b.drv])] := F0.out
  clear F0
  go_region_held3 (fun W => Fr w W [(w.heap.size, 64, #[.string s, .slice (some a) ps.length c, .int .i64 b.brk, .int .i64 b.drag, .int .i64 b.drv])] ∧ W.cell? ⟨w.heap.size, 0, none⟩ = some (.string s) ∧ W.cell? ⟨w.heap.size, 1, none⟩ = some (.slice (some a) ps.length c) ∧ W.cell? ⟨w.heap.size, 2, none⟩ = some (.int .i64 b.brk) ∧ W.cell? ⟨w.heap.size, 3, none⟩ = some (.int .i64 b.drag) ∧ W.cell? ⟨w.heap.size, 4, none⟩ = some (.int .i64 b.drv))
      ((go_split_ands; refine HALL.out _ ?_; (first | assumption | (repeat (first | assumption | refine Fr.new ?_ _ | refine Fr.drew ?_ | (refine Fr.set ?_ (by first | exact Nat.le_refl _ | omega | (simp; done) | (simp; omega)) (by first | (simp; done) | (simp; omega)) _))); done)))
      ((first
        | (go_at_call 48; go_split_ands; (with_reducible refine (slope_any s ps a c h12 HX.out k hk _ (Fr.lies HA.out (by assumption))).mono ?_); rintro e w1 ⟨rfl, hb1⟩; have F4 := Fr.call (by assumption) hb1; clear hb1)
        | (go_at_call 46; go_split_ands; (with_reducible refine (change_any s ps a c h12 HX.out k hk (b.drag + 10 * (gp ps k).grad) (by omega) _ (Fr.lies HA.out (by assumption))).mono ?_); rintro e w1 ⟨rfl, hb1⟩; have F5 := Fr.call (by assumption) hb1; clear hb1)
        | fail "arm"))
  all_goals
    go_split_ands
    go_wp2_with fail
    go_ret
    exact ⟨by first | rfl | (unfold lossV; rfl), (by assumption : Fr w _ [(w.heap.size, 64, #[.string s, .slice (some a) ps.length c, .int .i64 b.brk, .int .i64 b.drag, .int .i64 b.drv])]).bl⟩
end Go.Proofs.Ytaghpemdcmjchaa
