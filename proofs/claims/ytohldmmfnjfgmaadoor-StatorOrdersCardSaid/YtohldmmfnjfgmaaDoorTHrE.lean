
/-
  The walks of the reference's functions of six samples.
-/
import Derived.Test.YtohldmmfnjfgmaaDoorTHrD
namespace Go.Proofs.YtohldmmfnjfgmaaDoor
open Go.RowKit

/-- The error of orders. -/
def ohE (h : Nat → T3) : Int := if okH h = true then 0 else 2
theorem zero12r (x : Nat → Int) : (#[.int .i64 (sumsV (realV x) (-1) 0 0 0).a, .int .i64 (sumsV (realV x) (-1) 0 0 0).b, .int .i64 (sumsV (realV x) (-1) 0 0 1).a, .int .i64 (sumsV (realV x) (-1) 0 0 1).b, .int .i64 (sumsV (realV x) (-1) 0 0 2).a, .int .i64 (sumsV (realV x) (-1) 0 0 2).b, .int .i64 (sumsV (realV x) (-1) 0 0 3).a, .int .i64 (sumsV (realV x) (-1) 0 0 3).b, .int .i64 (sumsV (realV x) (-1) 0 0 4).a, .int .i64 (sumsV (realV x) (-1) 0 0 4).b, .int .i64 (sumsV (realV x) (-1) 0 0 5).a, .int .i64 (sumsV (realV x) (-1) 0 0 5).b] : Array Value) = #[.int .i64 0, .int .i64 0, .int .i64 0, .int .i64 0, .int .i64 0, .int .i64 0, .int .i64 0, .int .i64 0, .int .i64 0, .int .i64 0, .int .i64 0, .int .i64 0] := by
  simp only [sums_zero, T3.zero]
theorem real_in {x : Nat → Int} (h : ∀ i, -100000 ≤ x i ∧ x i ≤ 100000) (i : Nat) : (realV x i).In 2000000 := by
  have := h i
  exact ⟨by simp only [realV]; omega, by simp only [realV]; omega, by simp only [realV]; omega, by simp only [realV]; omega, by simp only [realV]; omega, by simp only [realV]; omega⟩
set_option maxHeartbeats 8000000 in
set_option maxRecDepth 100000 in
theorem refOrdersOf_any (x : Nat → Int) (hx : ∀ i, -100000 ≤ x i ∧ x i ≤ 100000) (w : World) : Calls Tryd.prog 14 #[.agg #[.int .i64 (x 0), .int .i64 (x 1), .int .i64 (x 2), .int .i64 (x 3), .int .i64 (x 4), .int .i64 (x 5)]] w fun e w' => e = .returned (.agg #[.int .i64 (ordV x 0).a, .int .i64 (ordV x 0).b, .int .i64 (ordV x 1).a, .int .i64 (ordV x 1).b, .int .i64 (ordV x 2).a, .int .i64 (ordV x 2).b, .int .i64 (ordV x 3).a, .int .i64 (ordV x 3).b, .int .i64 (ordV x 4).a, .int .i64 (ordV x 4).b, .int .i64 (ordV x 5).a, .int .i64 (ordV x 5).b]) ∧ Below w.heap.size w w' := by
  have HF := Lib.hid (real_in hx)
  have F0 : Hid (Fr w _ [(w.heap.size + 1 + 1, 25, #[.int .i64 (sumsV (realV x) (-1) 0 0 0).a, .int .i64 (sumsV (realV x) (-1) 0 0 0).b, .int .i64 (sumsV (realV x) (-1) 0 0 1).a, .int .i64 (sumsV (realV x) (-1) 0 0 1).b, .int .i64 (sumsV (realV x) (-1) 0 0 2).a, .int .i64 (sumsV (realV x) (-1) 0 0 2).b, .int .i64 (sumsV (realV x) (-1) 0 0 3).a, .int .i64 (sumsV (realV x) (-1) 0 0 3).b, .int .i64 (sumsV (realV x) (-1) 0 0 4).a, .int .i64 (sumsV (realV x) (-1) 0 0 4).b, .int .i64 (sumsV (realV x) (-1) 0 0 5).a, .int .i64 (sumsV (realV x) (-1) 0 0 5).b]), (w.heap.size + 1, 25, #[.int .i64 0, .int .i64 0, .int .i64 0, .int .i64 0, .int .i64 0, .int .i64 0, .int .i64 0, .int .i64 0, .int .i64 0, .int .i64 0, .int .i64 0, .int .i64 0]), (w.heap.size, 22, #[.int .i64 (x 0), .int .i64 (x 1), .int .i64 (x 2), .int .i64 (x 3), .int .i64 (x 4), .int .i64 (x 5)])]) := Lib.hid (by
    rw [zero12r]
    exact Fr.b3 w 22 #[.int .i64 (x 0), .int .i64 (x 1), .int .i64 (x 2), .int .i64 (x 3), .int .i64 (x 4), .int .i64 (x 5)] 25 #[.int .i64 0, .int .i64 0, .int .i64 0, .int .i64 0, .int .i64 0, .int .i64 0, .int .i64 0, .int .i64 0, .int .i64 0, .int .i64 0, .int .i64 0, .int .i64 0] 25 #[.int .i64 0, .int .i64 0, .int .i64 0, .int .i64 0, .int .i64 0, .int .i64 0, .int .i64 0, .int .i64 0, .int .i64 0, .int .i64 0, .int .i64 0, .int .i64 0])
  clear hx
  go_enter Tryd.func14, Tryd.ntmps14
  go_wp2_with fail
  go_loopw [4] (fun i wr => ∃ k : Nat, k ≤ 6 ∧ i = .int .i64 k ∧ Fr w wr [(w.heap.size + 1 + 1, 25, #[.int .i64 (sumsV (realV x) (-1) k 0 0).a, .int .i64 (sumsV (realV x) (-1) k 0 0).b, .int .i64 (sumsV (realV x) (-1) k 0 1).a, .int .i64 (sumsV (realV x) (-1) k 0 1).b, .int .i64 (sumsV (realV x) (-1) k 0 2).a, .int .i64 (sumsV (realV x) (-1) k 0 2).b, .int .i64 (sumsV (realV x) (-1) k 0 3).a, .int .i64 (sumsV (realV x) (-1) k 0 3).b, .int .i64 (sumsV (realV x) (-1) k 0 4).a, .int .i64 (sumsV (realV x) (-1) k 0 4).b, .int .i64 (sumsV (realV x) (-1) k 0 5).a, .int .i64 (sumsV (realV x) (-1) k 0 5).b]), (w.heap.size + 1, 25, #[.int .i64 0, .int .i64 0, .int .i64 0, .int .i64 0, .int .i64 0, .int .i64 0, .int .i64 0, .int .i64 0, .int .i64 0, .int .i64 0, .int .i64 0, .int .i64 0]), (w.heap.size, 22, #[.int .i64 (x 0), .int .i64 (x 1), .int .i64 (x 2), .int .i64 (x 3), .int .i64 (x 4), .int .i64 (x 5)])]) (fun i _ => 6 - (intOf i).toNat)
  case atStart => exact ⟨0, by omega, rfl, F0.out⟩
  case round =>
    obtain ⟨k, hk, rfl, hfr⟩ := hrel
    have FK := Lib.hid hfr
    clear hfr F0
    by_cases hlt : k < 6
    · have hk6 := hlt
      have hlt' : (k : Int) < 6 := by omega
      go_wp2_with fail
      go_loopw [5] (fun i wr => ∃ n : Nat, n ≤ 6 ∧ i = .int .i64 n ∧ Fr w wr [(w.heap.size + 1 + 1, 25, #[.int .i64 (sumsV (realV x) (-1) k n 0).a, .int .i64 (sumsV (realV x) (-1) k n 0).b, .int .i64 (sumsV (realV x) (-1) k n 1).a, .int .i64 (sumsV (realV x) (-1) k n 1).b, .int .i64 (sumsV (realV x) (-1) k n 2).a, .int .i64 (sumsV (realV x) (-1) k n 2).b, .int .i64 (sumsV (realV x) (-1) k n 3).a, .int .i64 (sumsV (realV x) (-1) k n 3).b, .int .i64 (sumsV (realV x) (-1) k n 4).a, .int .i64 (sumsV (realV x) (-1) k n 4).b, .int .i64 (sumsV (realV x) (-1) k n 5).a, .int .i64 (sumsV (realV x) (-1) k n 5).b]), (w.heap.size + 1, 25, #[.int .i64 0, .int .i64 0, .int .i64 0, .int .i64 0, .int .i64 0, .int .i64 0, .int .i64 0, .int .i64 0, .int .i64 0, .int .i64 0, .int .i64 0, .int .i64 0]), (w.heap.size, 22, #[.int .i64 (x 0), .int .i64 (x 1), .int .i64 (x 2), .int .i64 (x 3), .int .i64 (x 4), .int .i64 (x 5)])]) (fun i _ => 6 - (intOf i).toNat)
      case atStart => exact ⟨0, by omega, rfl, FK.out⟩
      case round =>
        obtain ⟨n, hn, rfl, hfr⟩ := hrel
        have FN := Lib.hid hfr
        clear hfr FK
        by_cases hnt : n < 6
        · have hnt' : (n : Int) < 6 := by omega
          have mn := mulB (x := -1 * (k : Int)) (y := (n : Int)) (A := 6) (B := 6) ⟨by omega, by omega⟩ ⟨by omega, by omega⟩
          have W1 : Hid (IntKind.i64.wrap (-(k : Int)) = -1 * (k : Int)) := Lib.hid ((IntWalk.i64_in _ ⟨by omega, by omega⟩).trans (by omega))
          have W2 : Hid (IntKind.i64.wrap (-1 * (k : Int) * (n : Int)) = -1 * (k : Int) * (n : Int)) := Lib.hid (IntWalk.i64_in _ ⟨by omega, by omega⟩)
          have e3 : -(k : Int) * (n : Int) = -1 * (k : Int) * (n : Int) := by rw [show -(k : Int) = -1 * (k : Int) by omega]
          have W3 : Hid (IntKind.i64.wrap (-(k : Int) * (n : Int)) = -(k : Int) * (n : Int)) := Lib.hid (by rw [e3]; exact W2.out)
          have HTU : Hid (∀ w, Calls Tryd.prog 58 #[.agg #[.int .i64 (x n), .int .i64 0], .int .i64 (-(k : Int) * (n : Int))] w fun e w' => e = .returned (.agg #[.int .i64 (turned (realV x n) (-(k : Int) * (n : Int))).a, .int .i64 (turned (realV x n) (-(k : Int) * (n : Int))).b]) ∧ Below w.heap.size w w') := Lib.hid (fun w => by exact refTurned_any (realV x n) (-(k : Int) * (n : Int)) ((HF.out n).more (by omega)) w)
          have HPL := Lib.hid (TAdd_any (tsum (realV x) (-1) k n) (turned (realV x n) (-(k : Int) * (n : Int))) ((tsum_bd HF.out k n (by omega)).bd.more (by omega)) (((HF.out n).turnN _).bd.more (by omega)))
          have E3 := Lib.hid e3
          clear mn e3
          go_upto_region 8 with fail
          have F8 : Fr w _ [(w.heap.size + 1 + 1, 25, #[.int .i64 (sumsV (realV x) (-1) k n 0).a, .int .i64 (sumsV (realV x) (-1) k n 0).b, .int .i64 (sumsV (realV x) (-1) k n 1).a, .int .i64 (sumsV (realV x) (-1) k n 1).b, .int .i64 (sumsV (realV x) (-1) k n 2).a, .int .i64 (sumsV (realV x) (-1) k n 2).b, .int .i64 (sumsV (realV x) (-1) k n 3).a, .int .i64 (sumsV (realV x) (-1) k n 3).b, .int .i64 (sumsV (realV x) (-1) k n 4).a, .int .i64 (sumsV (realV x) (-1) k n 4).b, .int .i64 (sumsV (realV x) (-1) k n 5).a, .int .i64 (sumsV (realV x) (-1) k n 5).b]), (w.heap.size + 1, 25, #[.int .i64 0, .int .i64 0, .int .i64 0, .int .i64 0, .int .i64 0, .int .i64 0, .int .i64 0, .int .i64 0, .int .i64 0, .int .i64 0, .int .i64 0, .int .i64 0]), (w.heap.size, 22, #[.int .i64 (x 0), .int .i64 (x 1), .int .i64 (x 2), .int .i64 (x 3), .int .i64 (x 4), .int .i64 (x 5)])] := FN.out
          have HALL : Hid (∀ W, Fr w W [(w.heap.size + 1 + 1, 25, #[.int .i64 (sumsV (realV x) (-1) k n 0).a, .int .i64 (sumsV (realV x) (-1) k n 0).b, .int .i64 (sumsV (realV x) (-1) k n 1).a, .int .i64 (sumsV (realV x) (-1) k n 1).b, .int .i64 (sumsV (realV x) (-1) k n 2).a, .int .i64 (sumsV (realV x) (-1) k n 2).b, .int .i64 (sumsV (realV x) (-1) k n 3).a, .int .i64 (sumsV (realV x) (-1) k n 3).b, .int .i64 (sumsV (realV x) (-1) k n 4).a, .int .i64 (sumsV (realV x) (-1) k n 4).b, .int .i64 (sumsV (realV x) (-1) k n 5).a, .int .i64 (sumsV (realV x) (-1) k n 5).b]), (w.heap.size + 1, 25, #[.int .i64 0, .int .i64 0, .int .i64 0, .int .i64 0, .int .i64 0, .int .i64 0, .int .i64 0, .int .i64 0, .int .i64 0, .int .i64 0, .int .i64 0, .int .i64 0]), (w.heap.size, 22, #[.int .i64 (x 0), .int .i64 (x 1), .int .i64 (x 2), .int .i64 (x 3), .int .i64 (x 4), .int .i64 (x 5)])] → Fr w W [(w.heap.size + 1 + 1, 25, #[.int .i64 (sumsV (realV x) (-1) k n 0).a, .int .i64 (sumsV (realV x) (-1) k n 0).b, .int .i64 (sumsV (realV x) (-1) k n 1).a, .int .i64 (sumsV (realV x) (-1) k n 1).b, .int .i64 (sumsV (realV x) (-1) k n 2).a, .int .i64 (sumsV (realV x) (-1) k n 2).b, .int .i64 (sumsV (realV x) (-1) k n 3).a, .int .i64 (sumsV (realV x) (-1) k n 3).b, .int .i64 (sumsV (realV x) (-1) k n 4).a, .int .i64 (sumsV (realV x) (-1) k n 4).b, .int .i64 (sumsV (realV x) (-1) k n 5).a, .int .i64 (sumsV (realV x) (-1) k n 5).b]), (w.heap.size + 1, 25, #[.int .i64 0, .int .i64 0, .int .i64 0, .int .i64 0, .int .i64 0, .int .i64 0, .int .i64 0, .int .i64 0, .int .i64 0, .int .i64 0, .int .i64 0, .int .i64 0]), (w.heap.size, 22, #[.int .i64 (x 0), .int .i64 (x 1), .int .i64 (x 2), .int .i64 (x 3), .int .i64 (x 4), .int .i64 (x 5)])] ∧ W.cell? ⟨w.heap.size + 1 + 1, k * 2, none⟩ = some (.int .i64 (tsum (realV x) (-1) k n).a) ∧ W.cell? ⟨w.heap.size + 1 + 1, k * 2 + 1, none⟩ = some (.int .i64 (tsum (realV x) (-1) k n).b) ∧ W.cell? ⟨w.heap.size, n, none⟩ = some (.int .i64 (x n))) := Lib.hid (fun W hW => ⟨hW, (hW.tcell hk6).1.trans (by rw [sums_at]), (hW.tcell hk6).2.trans (by rw [sums_at]), (hW.at2.cell n).trans (ic_get x hnt)⟩)
          have hwA : IntKind.i64.wrap (-(k : Int)) = -(k : Int) := W1.out.trans (by omega)
          have hw3 := W3.out
          clear FN
          refine Tw_start 15 (fun W => Fr w W [(w.heap.size + 1 + 1, 25, #[.int .i64 (sumsV (realV x) (-1) k n 0).a, .int .i64 (sumsV (realV x) (-1) k n 0).b, .int .i64 (sumsV (realV x) (-1) k n 1).a, .int .i64 (sumsV (realV x) (-1) k n 1).b, .int .i64 (sumsV (realV x) (-1) k n 2).a, .int .i64 (sumsV (realV x) (-1) k n 2).b, .int .i64 (sumsV (realV x) (-1) k n 3).a, .int .i64 (sumsV (realV x) (-1) k n 3).b, .int .i64 (sumsV (realV x) (-1) k n 4).a, .int .i64 (sumsV (realV x) (-1) k n 4).b, .int .i64 (sumsV (realV x) (-1) k n 5).a, .int .i64 (sumsV (realV x) (-1) k n 5).b]), (w.heap.size + 1, 25, #[.int .i64 0, .int .i64 0, .int .i64 0, .int .i64 0, .int .i64 0, .int .i64 0, .int .i64 0, .int .i64 0, .int .i64 0, .int .i64 0, .int .i64 0, .int .i64 0]), (w.heap.size, 22, #[.int .i64 (x 0), .int .i64 (x 1), .int .i64 (x 2), .int .i64 (x 3), .int .i64 (x 4), .int .i64 (x 5)])] ∧ W.cell? ⟨w.heap.size + 1 + 1, k * 2, none⟩ = some (.int .i64 (tsum (realV x) (-1) k n).a) ∧ W.cell? ⟨w.heap.size + 1 + 1, k * 2 + 1, none⟩ = some (.int .i64 (tsum (realV x) (-1) k n).b) ∧ W.cell? ⟨w.heap.size, n, none⟩ = some (.int .i64 (x n))) (by kernel_rfl) (by kernel_rfl) rfl ?_ ?_
          · (try dsimp only)
            ((go_split_ands; refine HALL.out _ ?_; (first | assumption | (repeat (first | assumption | refine Fr.new ?_ _ | refine Fr.drew ?_ | (refine Fr.set ?_ (by first | exact Nat.le_refl _ | omega | (simp; done) | (simp; omega)) (by first | (simp; done) | (simp; omega)) _))); done)))
          refine Tw_takeL (i := 0) (v := ?tv1) rfl (by kernel_rfl) (by decide) (by kernel_rfl) (by kernel_rfl) (fun _ _ _ h => h) (by rfl) ?ty1 ?tn1
          case ty1 => (intro w hSw; (try dsimp only at hSw); go_simp <;> with_reducible rfl)
          (try simp only [Act.put, List.setIfInBounds_toArray, List.set_cons_zero, List.set_cons_succ])
          refine Tw_takeL (i := 1) (v := ?tv2) rfl (by kernel_rfl) (by decide) (by kernel_rfl) (by kernel_rfl) (fun _ _ _ h => h) (by rfl) ?ty2 ?tn2
          case ty2 => (intro w hSw; (try dsimp only at hSw); go_simp <;> with_reducible rfl)
          (try simp only [Act.put, List.setIfInBounds_toArray, List.set_cons_zero, List.set_cons_succ])
          refine Tw_takeL (i := 2) (v := ?tv3) rfl (by kernel_rfl) (by decide) (by kernel_rfl) (by kernel_rfl) (fun _ _ _ h => h) (by rfl) ?ty3 ?tn3
          case ty3 => (intro w hSw; (try dsimp only at hSw); go_simp <;> with_reducible rfl)
          (try simp only [Act.put, List.setIfInBounds_toArray, List.set_cons_zero, List.set_cons_succ])
          refine Tw_takeL (i := 3) (v := ?tv4) rfl (by kernel_rfl) (by decide) (by kernel_rfl) (by kernel_rfl) (fun _ _ _ h => h) (by rfl) ?ty4 ?tn4
          case ty4 => (intro w hSw; (try dsimp only at hSw); go_simp <;> with_reducible rfl)
          (try simp only [Act.put, List.setIfInBounds_toArray, List.set_cons_zero, List.set_cons_succ])
          refine Tw_takeL (i := 4) (v := ?tv5) rfl (by kernel_rfl) (by decide) (by kernel_rfl) (by kernel_rfl) (fun _ _ _ h => h) (by rfl) ?ty5 ?tn5
          case ty5 => (intro w hSw; (try dsimp only at hSw); go_simp <;> with_reducible rfl)
          (try simp only [Act.put, List.setIfInBounds_toArray, List.set_cons_zero, List.set_cons_succ])
          refine Tw_takeL (i := 5) (v := ?tv6) rfl (by kernel_rfl) (by decide) (by kernel_rfl) (by kernel_rfl) (fun _ _ _ h => h) (by rfl) ?ty6 ?tn6
          case ty6 => (intro w hSw; (try dsimp only at hSw); go_simp <;> with_reducible rfl)
          (try simp only [Act.put, List.setIfInBounds_toArray, List.set_cons_zero, List.set_cons_succ])
          refine Tw_takeL (i := 6) (v := ?tv7) rfl (by kernel_rfl) (by decide) (by kernel_rfl) (by kernel_rfl) (fun _ _ _ h => h) (by rfl) ?ty7 ?tn7
          case ty7 => (intro w hSw; (try dsimp only at hSw); go_simp <;> with_reducible rfl)
          (try simp only [Act.put, List.setIfInBounds_toArray, List.set_cons_zero, List.set_cons_succ])
          refine Tw_takeL (i := 7) (v := ?tv8) rfl (by kernel_rfl) (by decide) (by kernel_rfl) (by kernel_rfl) (fun _ _ _ h => h) (by rfl) ?ty8 ?tn8
          case ty8 => (intro w hSw; (try dsimp only at hSw); go_simp <;> with_reducible rfl)
          (try simp only [Act.put, List.setIfInBounds_toArray, List.set_cons_zero, List.set_cons_succ])
          refine Tw_takeL (i := 8) (v := ?tv9) rfl (by kernel_rfl) (by decide) (by kernel_rfl) (by kernel_rfl) (fun _ _ _ h => h) (by rfl) ?ty9 ?tn9
          case ty9 => (intro w hSw; (try dsimp only at hSw); go_simp <;> with_reducible rfl)
          (try simp only [Act.put, List.setIfInBounds_toArray, List.set_cons_zero, List.set_cons_succ])
          refine Tw_takeL (i := 9) (v := ?tv10) rfl (by kernel_rfl) (by decide) (by kernel_rfl) (by kernel_rfl) (fun _ _ _ h => h) (by rfl) ?ty10 ?tn10
          case ty10 => (intro w hSw; (try dsimp only at hSw); go_simp <;> with_reducible rfl)
          (try simp only [Act.put, List.setIfInBounds_toArray, List.set_cons_zero, List.set_cons_succ])
          refine Tw_takeL (i := 10) (v := ?tv11) rfl (by kernel_rfl) (by decide) (by kernel_rfl) (by kernel_rfl) (fun _ _ _ h => h) (by rfl) ?ty11 ?tn11
          case ty11 => (intro w hSw; (try dsimp only at hSw); go_simp <;> with_reducible rfl)
          (try simp only [Act.put, List.setIfInBounds_toArray, List.set_cons_zero, List.set_cons_succ])
          refine Tw_takeL (i := 11) (v := ?tv12) rfl (by kernel_rfl) (by decide) (by kernel_rfl) (by kernel_rfl) (fun _ _ _ h => h) (by rfl) ?ty12 ?tn12
          case ty12 => (intro w hSw; (try dsimp only at hSw); go_simp <;> with_reducible rfl)
          (try simp only [Act.put, List.setIfInBounds_toArray, List.set_cons_zero, List.set_cons_succ])
          refine Tw_all (rs := [12]) (by kernel_rfl) (by simp) (by decide) (fun hHeld => ?_)
          refine AllT.consL rfl (fun K hK => ?_) AllT.nil
          go_simp
          (go_at_call 58; go_split_ands; (with_reducible refine (HTU.out _).mono ?_); rintro e w7 ⟨rfl, hb7⟩; have F4 := Fr.call (by assumption) hb7; clear hb7)
          refine hK.out _ _ ?_ ?_
          · (try dsimp only)
            ((go_split_ands; refine HALL.out _ ?_; (first | assumption | (repeat (first | assumption | refine Fr.new ?_ _ | refine Fr.drew ?_ | (refine Fr.set ?_ (by first | exact Nat.le_refl _ | omega | (simp; done) | (simp; omega)) (by first | (simp; done) | (simp; omega)) _))); done)))
          clear hK K
          (try simp only [Act.put, List.setIfInBounds_toArray, List.set_cons_zero, List.set_cons_succ])
          refine Tw_all (rs := [13]) (by kernel_rfl) (by simp) (by decide) (fun hHeld => ?_)
          refine AllT.consL rfl (fun K hK => ?_) AllT.nil
          go_simp
          (go_at_call 57; go_split_ands; (with_reducible refine (HPL.out _).mono ?_); rintro e w7 ⟨rfl, hb7⟩; have F4 := Fr.call (by assumption) hb7; clear hb7)
          refine hK.out _ _ ?_ ?_
          · (try dsimp only)
            ((go_split_ands; refine HALL.out _ ?_; (first | assumption | (repeat (first | assumption | refine Fr.new ?_ _ | refine Fr.drew ?_ | (refine Fr.set ?_ (by first | exact Nat.le_refl _ | omega | (simp; done) | (simp; omega)) (by first | (simp; done) | (simp; omega)) _))); done)))
          clear hK K
          (try simp only [Act.put, List.setIfInBounds_toArray, List.set_cons_zero, List.set_cons_succ])
          refine Tw_takeL (i := 14) (v := ?tv13) rfl (by kernel_rfl) (by decide) (by kernel_rfl) (by kernel_rfl) (fun _ _ _ h => h) (by rfl) ?ty13 ?tn13
          case ty13 => (intro w hSw; (try dsimp only at hSw); go_simp <;> with_reducible rfl)
          (try simp only [Act.put, List.setIfInBounds_toArray, List.set_cons_zero, List.set_cons_succ])
          refine Tw_end (by kernel_rfl) (fun hh => ?_)
          obtain ⟨F11, _⟩ := hh
          clear HALL hw3 hwA
          have F12 := Lib.hid F11
          clear F11
          obtain ⟨c0, c1⟩ := F12.out.tcell hk6
          have g0 := F12.out.top.frozen (k * 2)
          have g1 := F12.out.top.frozen (k * 2 + 1)
          go_wp2_with fail
          go_roundw
          case rel => exact ⟨n + 1, by omega, by go_num, by
            have h := F12.out.putT hk6 ((tsum (realV x) (-1) k n).add (turned (realV x n) (-(k : Int) * (n : Int)))) (by omega) (by first | (simp; done) | (simp; omega))
            rw [E3.out, sums_next] at h
            rw [E3.out]
            exact h⟩
          case measure => simp [intOf]; omega
        · obtain rfl : n = 6 := by omega
          go_wp2_with fail
          go_roundw
          case rel => exact ⟨k + 1, by omega, by go_num, by have h := FN.out; rw [sums_row] at h; exact h⟩
          case measure => simp [intOf]; omega
    · obtain rfl : k = 6 := by omega
      have v0 := FK.out.top.cell 0
      have v1 := FK.out.top.cell 1
      have v2 := FK.out.top.cell 2
      have v3 := FK.out.top.cell 3
      have v4 := FK.out.top.cell 4
      have v5 := FK.out.top.cell 5
      have v6 := FK.out.top.cell 6
      have v7 := FK.out.top.cell 7
      have v8 := FK.out.top.cell 8
      have v9 := FK.out.top.cell 9
      have v10 := FK.out.top.cell 10
      have v11 := FK.out.top.cell 11
      have r0 := FK.out.at1.cell 0
      have r1 := FK.out.at1.cell 1
      have r2 := FK.out.at1.cell 2
      have r3 := FK.out.at1.cell 3
      have r4 := FK.out.at1.cell 4
      have r5 := FK.out.at1.cell 5
      have r6 := FK.out.at1.cell 6
      have r7 := FK.out.at1.cell 7
      have r8 := FK.out.at1.cell 8
      have r9 := FK.out.at1.cell 9
      have r10 := FK.out.at1.cell 10
      have r11 := FK.out.at1.cell 11
      have g0 := FK.out.at1.frozen 0
      have g1 := FK.out.at1.frozen 1
      have g2 := FK.out.at1.frozen 2
      have g3 := FK.out.at1.frozen 3
      have g4 := FK.out.at1.frozen 4
      have g5 := FK.out.at1.frozen 5
      have g6 := FK.out.at1.frozen 6
      have g7 := FK.out.at1.frozen 7
      have g8 := FK.out.at1.frozen 8
      have g9 := FK.out.at1.frozen 9
      have g10 := FK.out.at1.frozen 10
      have g11 := FK.out.at1.frozen 11
      rw [sums_all _ _ 0 (by omega), sums_all _ _ 1 (by omega), sums_all _ _ 2 (by omega), sums_all _ _ 3 (by omega), sums_all _ _ 4 (by omega), sums_all _ _ 5 (by omega)] at FK
      clear v0 v1 v2 v3 v4 v5 v6 v7 v8 v9 v10 v11
      have v0 := FK.out.top.cell 0
      have v1 := FK.out.top.cell 1
      have v2 := FK.out.top.cell 2
      have v3 := FK.out.top.cell 3
      have v4 := FK.out.top.cell 4
      have v5 := FK.out.top.cell 5
      have v6 := FK.out.top.cell 6
      have v7 := FK.out.top.cell 7
      have v8 := FK.out.top.cell 8
      have v9 := FK.out.top.cell 9
      have v10 := FK.out.top.cell 10
      have v11 := FK.out.top.cell 11
      go_wp2_with fail
      refine wpQ_abs (Q := bodyPost _ _ _) ?_
      intro W' hW'
      have B2 : Bk W' (w.heap.size + 1) 25 #[.int .i64 (ordV x 0).a, .int .i64 (ordV x 0).b, .int .i64 (ordV x 1).a, .int .i64 (ordV x 1).b, .int .i64 (ordV x 2).a, .int .i64 (ordV x 2).b, .int .i64 (ordV x 3).a, .int .i64 (ordV x 3).b, .int .i64 (ordV x 4).a, .int .i64 (ordV x 4).b, .int .i64 (ordV x 5).a, .int .i64 (ordV x 5).b] := by rw [← hW']; exact Bk.put12 FK.out.at1
      have BL := Lib.hid (show Below w.heap.size w W' by rw [← hW']; exact ((((((((((((FK.out.bl.setCell (by simp) _).setCell (by simp) _).setCell (by simp) _).setCell (by simp) _).setCell (by simp) _).setCell (by simp) _).setCell (by simp) _).setCell (by simp) _).setCell (by simp) _).setCell (by simp) _).setCell (by simp) _).setCell (by simp) _))
      clear hW' v0 v1 v2 v3 v4 v5 v6 v7 v8 v9 v10 v11 r0 r1 r2 r3 r4 r5 r6 r7 r8 r9 r10 r11 g0 g1 g2 g3 g4 g5 g6 g7 g8 g9 g10 g11
      have q0 := B2.cell 0
      have q1 := B2.cell 1
      have q2 := B2.cell 2
      have q3 := B2.cell 3
      have q4 := B2.cell 4
      have q5 := B2.cell 5
      have q6 := B2.cell 6
      have q7 := B2.cell 7
      have q8 := B2.cell 8
      have q9 := B2.cell 9
      have q10 := B2.cell 10
      have q11 := B2.cell 11
      exact bodyPost_ret (v := .agg #[.int .i64 (ordV x 0).a, .int .i64 (ordV x 0).b, .int .i64 (ordV x 1).a, .int .i64 (ordV x 1).b, .int .i64 (ordV x 2).a, .int .i64 (ordV x 2).b, .int .i64 (ordV x 3).a, .int .i64 (ordV x 3).b, .int .i64 (ordV x 4).a, .int .i64 (ordV x 4).b, .int .i64 (ordV x 5).a, .int .i64 (ordV x 5).b]) (by simp [results, Tryd.results14, go_sem, q0, q1, q2, q3, q4, q5, q6, q7, q8, q9, q10, q11]) rfl ⟨rfl, BL.out⟩

set_option maxHeartbeats 8000000 in
set_option maxRecDepth 100000 in
theorem refEnergyOf_any (x : Nat → Int) (hx : ∀ i, -100000 ≤ x i ∧ x i ≤ 100000) (w : World) : Calls Tryd.prog 15 #[.agg #[.int .i64 (x 0), .int .i64 (x 1), .int .i64 (x 2), .int .i64 (x 3), .int .i64 (x 4), .int .i64 (x 5)]] w fun e w' => e = .returned (.int .i64 (enV x 6)) ∧ Below w.heap.size w w' := by
  have F0 := Lib.hid (Fr.b1 w 22 #[.int .i64 (x 0), .int .i64 (x 1), .int .i64 (x 2), .int .i64 (x 3), .int .i64 (x 4), .int .i64 (x 5)])
  have HI := Lib.hid hx
  clear hx
  go_enter Tryd.func15, Tryd.ntmps15
  go_wp2_with fail
  go_loopw [3, 4] (fun s i wr => ∃ k : Nat, k ≤ 6 ∧ i = .int .i64 k ∧ s = .int .i64 (enV x k) ∧ Fr w wr [(w.heap.size, 22, #[.int .i64 (x 0), .int .i64 (x 1), .int .i64 (x 2), .int .i64 (x 3), .int .i64 (x 4), .int .i64 (x 5)])]) (fun _ i _ => 6 - (intOf i).toNat)
  case atStart => exact ⟨0, by omega, rfl, rfl, F0.out⟩
  case round =>
    obtain ⟨k, hk, rfl, rfl, hfr⟩ := hrel
    have FK := Lib.hid hfr
    clear hfr F0
    by_cases hlt : k < 6
    · have hlt' : (k : Int) < 6 := by omega
      have c0 := (FK.out.top.cell k).trans (ic_get x hlt)
      have h1 := mulB (HI.out k) (HI.out k)
      have h2 := en_in HI.out k
      obtain ⟨p, hp⟩ : ∃ p, x k * x k = p := ⟨_, rfl⟩
      have HS : Hid (enV x (k + 1) = enV x k + p) := Lib.hid (by rw [enV, hp])
      have w1 : IntKind.i64.wrap (x k * x k) = p := by rw [← hp]; exact IntWalk.i64_in _ ⟨by omega, by omega⟩
      rw [hp] at h1
      obtain ⟨h3, h4⟩ := h1
      obtain ⟨h5, h6⟩ := h2
      have h7 : enV x k ≤ 60000000000 := by omega
      have w2 : IntKind.i64.wrap (enV x k + p) = enV x k + p := IntWalk.i64_in _ ⟨by omega, by omega⟩
      clear hp h6
      go_wp2_with fail
      (first | go_quiet (fail) | fail "quiet")
      clear w1 w2
      go_wp2_with fail
      go_roundw
      case rel => exact ⟨k + 1, by omega, by go_num, by rw [HS.out], FK.out.call (below_drewN (Below.refl _ _) _)⟩
      case measure => simp [intOf]; omega
    · obtain rfl : k = 6 := by omega
      go_wp2_with fail
      go_ret
      exact ⟨rfl, FK.out.bl⟩

set_option maxHeartbeats 8000000 in
set_option maxRecDepth 100000 in
theorem OrdersErr_any (h : Nat → T3) (w : World) : Calls Tryd.prog 16 #[.agg #[.int .i64 (h 0).a, .int .i64 (h 0).b, .int .i64 (h 1).a, .int .i64 (h 1).b, .int .i64 (h 2).a, .int .i64 (h 2).b, .int .i64 (h 3).a, .int .i64 (h 3).b, .int .i64 (h 4).a, .int .i64 (h 4).b, .int .i64 (h 5).a, .int .i64 (h 5).b]] w fun e w' => e = .returned (.int .i64 (ohE h)) ∧ Below w.heap.size w w' := by
  have F0 := Lib.hid (Fr.b1 w 25 #[.int .i64 (h 0).a, .int .i64 (h 0).b, .int .i64 (h 1).a, .int .i64 (h 1).b, .int .i64 (h 2).a, .int .i64 (h 2).b, .int .i64 (h 3).a, .int .i64 (h 3).b, .int .i64 (h 4).a, .int .i64 (h 4).b, .int .i64 (h 5).a, .int .i64 (h 5).b])
  go_enter Tryd.func16, Tryd.ntmps16
  go_wp2_with fail
  go_loop [3] (fun i => ∃ k : Nat, k ≤ 6 ∧ i = .int .i64 k ∧ ∀ j, j < k → okh (h j) = true) (fun i => 6 - (intOf i).toNat)
  case atStart => exact ⟨0, by omega, rfl, fun j hj => by omega⟩
  case round =>
    obtain ⟨k, hk, rfl, hp⟩ := hrel
    have HP := Lib.hid hp
    clear hp
    by_cases hlt : k < 6
    · have hlt' : (k : Int) < 6 := by omega
      obtain ⟨c0, c1⟩ := F0.out.tcell hlt
      cases ha : inB (h k).a (-600000) 600000 with
      | false =>
        have HA := Lib.hid ha
        have HE : Hid (ohE h = 2) := Lib.hid (by unfold ohE; rw [if_neg (by rw [okH_bad hlt (by unfold okh; rw [ha]; rfl)]; simp)])
        clear ha
        go_wp2_with (go_at_call 59; refine (refsize_any _ _ (by omega) (by omega) _).mono ?_; rintro e w' ⟨rfl, rfl⟩; rw [HA.out])
        go_ret
        exact ⟨ret_i64 HE.out.symm, F0.out.bl⟩
      | true =>
        cases hb : inB (h k).b (-600000) 600000 with
        | false =>
          have HA := Lib.hid ha
          have HB := Lib.hid hb
          have HE : Hid (ohE h = 2) := Lib.hid (by unfold ohE; rw [if_neg (by rw [okH_bad hlt (by unfold okh; rw [ha, hb]; rfl)]; simp)])
          clear ha hb
          go_wp2_with (go_at_call 59; refine (refsize_any _ _ (by omega) (by omega) _).mono ?_; rintro e w' ⟨rfl, rfl⟩; (first | rw [HA.out] | rw [HB.out]))
          go_ret
          exact ⟨ret_i64 HE.out.symm, F0.out.bl⟩
        | true =>
          have HA := Lib.hid ha
          have HB := Lib.hid hb
          have HE : Hid (okh (h k) = true) := Lib.hid (by unfold okh; rw [ha, hb]; rfl)
          clear ha hb
          go_wp2_with (go_at_call 59; refine (refsize_any _ _ (by omega) (by omega) _).mono ?_; rintro e w' ⟨rfl, rfl⟩; (first | rw [HA.out] | rw [HB.out]))
          go_round
          case rel => exact ⟨k + 1, by omega, by go_num, fun j hj => by
            by_cases e : j = k
            · rw [e]; exact HE.out
            · exact HP.out j (by omega)⟩
          case measure => simp [intOf]; omega
    · obtain rfl : k = 6 := by omega
      have HE : Hid (ohE h = 0) := Lib.hid (by unfold ohE; rw [if_pos (okH_all HP.out)])
      go_wp2_with fail
      go_ret
      exact ⟨ret_i64 HE.out.symm, F0.out.bl⟩
end Go.Proofs.YtohldmmfnjfgmaaDoor
