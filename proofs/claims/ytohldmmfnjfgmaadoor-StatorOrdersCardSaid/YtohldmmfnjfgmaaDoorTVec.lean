
/-
  The walks of the functions of vectors that only reckon.
-/
import Derived.Test.YtohldmmfnjfgmaaDoorTLeaf
namespace Go.Proofs.YtohldmmfnjfgmaaDoor
open Go.RowKit

set_option maxHeartbeats 400000 in
theorem square_any (v : T3) (h : v.Bd 1000000000) (w : World) : Calls Tryd.prog 84 #[(.agg #[.int .i64 v.a, .int .i64 v.b])] w fun e w' => e = .returned (.int .i64 v.nrm) ∧ Below w.heap.size w w' := by
  have hb := box1 w #[.int .i64 v.a, .int .i64 v.b] 24
  obtain ⟨a0, a1, b0, b1⟩ := h
  obtain ⟨m1, m2⟩ := mulB ⟨a0, a1⟩ ⟨a0, a1⟩
  obtain ⟨m3, m4⟩ := mulB ⟨a0, a1⟩ ⟨b0, b1⟩
  obtain ⟨m5, m6⟩ := mulB ⟨b0, b1⟩ ⟨b0, b1⟩
  have t1 := IntWalk.wrap64_in (v.a * v.a) ⟨by omega, by omega⟩
  have t2 := IntWalk.wrap64_in (v.a * v.b) ⟨by omega, by omega⟩
  have t3 := IntWalk.wrap64_in (v.b * v.b) ⟨by omega, by omega⟩
  have t4 := IntWalk.wrap64_in (v.a * v.a - v.a * v.b) ⟨by omega, by omega⟩
  have t5 := IntWalk.wrap64_in (v.a * v.a - v.a * v.b + v.b * v.b) ⟨by omega, by omega⟩
  clear m1 m2 m3 m4 m5 m6
  go_enter Tryd.func84, Tryd.ntmps84
  go_wp2
  go_ret
  exact ⟨ret_i64 t5, hb⟩

set_option maxHeartbeats 400000 in
theorem TNorm_any (v : T3) (h : v.Bd 1000000000) (w : World) : Calls Tryd.prog 19 #[(.agg #[.int .i64 v.a, .int .i64 v.b])] w fun e w' => e = .returned (.int .i64 v.nrm) ∧ Below w.heap.size w w' := by
  have hb := box1 w #[.int .i64 v.a, .int .i64 v.b] 24
  obtain ⟨a0, a1, b0, b1⟩ := h
  obtain ⟨m1, m2⟩ := mulB ⟨a0, a1⟩ ⟨a0, a1⟩
  obtain ⟨m3, m4⟩ := mulB ⟨a0, a1⟩ ⟨b0, b1⟩
  obtain ⟨m5, m6⟩ := mulB ⟨b0, b1⟩ ⟨b0, b1⟩
  have t1 := IntWalk.wrap64_in (v.a * v.a) ⟨by omega, by omega⟩
  have t2 := IntWalk.wrap64_in (v.a * v.b) ⟨by omega, by omega⟩
  have t3 := IntWalk.wrap64_in (v.b * v.b) ⟨by omega, by omega⟩
  have t4 := IntWalk.wrap64_in (v.a * v.a - v.a * v.b) ⟨by omega, by omega⟩
  have t5 := IntWalk.wrap64_in (v.a * v.a - v.a * v.b + v.b * v.b) ⟨by omega, by omega⟩
  clear m1 m2 m3 m4 m5 m6
  go_enter Tryd.func19, Tryd.ntmps19
  go_wp2
  go_ret
  exact ⟨ret_i64 t5, hb⟩

set_option maxHeartbeats 400000 in
theorem conjugate_any (v : T3) (h : v.Bd 1000000000) (w : World) : Calls Tryd.prog 89 #[(.agg #[.int .i64 v.a, .int .i64 v.b])] w fun e w' => e = .returned (.agg #[.int .i64 v.conj.a, .int .i64 v.conj.b]) ∧ Below w.heap.size w w' := by
  obtain ⟨a0, a1, b0, b1⟩ := h
  go_enter Tryd.func89, Tryd.ntmps89
  go_wp2
  exact bodyPost_ret (v := .agg #[.int .i64 (v.a - v.b), .int .i64 (-v.b)]) (by simp [results, Tryd.results89, go_sem]) rfl ⟨rfl, box2 w _ _ _ _⟩

set_option maxHeartbeats 400000 in
theorem TConj_any (v : T3) (h : v.Bd 1000000000) (w : World) : Calls Tryd.prog 44 #[(.agg #[.int .i64 v.a, .int .i64 v.b])] w fun e w' => e = .returned (.agg #[.int .i64 v.conj.a, .int .i64 v.conj.b]) ∧ Below w.heap.size w w' := by
  obtain ⟨a0, a1, b0, b1⟩ := h
  go_enter Tryd.func44, Tryd.ntmps44
  go_wp2
  exact bodyPost_ret (v := .agg #[.int .i64 (v.a - v.b), .int .i64 (-v.b)]) (by simp [results, Tryd.results44, go_sem]) rfl ⟨rfl, box2 w _ _ _ _⟩
end Go.Proofs.YtohldmmfnjfgmaaDoor
