
/-
  The walk of the sums of turned vectors.
-/
import Derived.Test.YtohldmmfnjfgmaaDoorTHrA
namespace Go.Proofs.YtohldmmfnjfgmaaDoor
open Go.RowKit

theorem tsum_bd {f : Nat → T3} {way : Int} (hf : ∀ i, (f i).In 2000000) (k n : Nat) (hn : n ≤ 6) : (tsum f way k n).In 12000000 := by
  have h := tsum_in f way k 2000000 hf n
  exact h.more (by omega)
theorem zero12 (f : Nat → T3) (way : Int) : (#[.int .i64 (sumsV f way 0 0 0).a, .int .i64 (sumsV f way 0 0 0).b, .int .i64 (sumsV f way 0 0 1).a, .int .i64 (sumsV f way 0 0 1).b, .int .i64 (sumsV f way 0 0 2).a, .int .i64 (sumsV f way 0 0 2).b, .int .i64 (sumsV f way 0 0 3).a, .int .i64 (sumsV f way 0 0 3).b, .int .i64 (sumsV f way 0 0 4).a, .int .i64 (sumsV f way 0 0 4).b, .int .i64 (sumsV f way 0 0 5).a, .int .i64 (sumsV f way 0 0 5).b] : Array Value) = #[.int .i64 0, .int .i64 0, .int .i64 0, .int .i64 0, .int .i64 0, .int .i64 0, .int .i64 0, .int .i64 0, .int .i64 0, .int .i64 0, .int .i64 0, .int .i64 0] := by
  simp only [sums_zero, T3.zero]
set_option maxHeartbeats 8000000 in
set_option maxRecDepth 100000 in
theorem turnedSums_any (f : Nat → T3) (way : Int) (hw : way = 1 ∨ way = -1) (hf : ∀ i, (f i).In 2000000) (w : World) : Calls Tryd.prog 55 #[.agg #[.int .i64 (f 0).a, .int .i64 (f 0).b, .int .i64 (f 1).a, .int .i64 (f 1).b, .int .i64 (f 2).a, .int .i64 (f 2).b, .int .i64 (f 3).a, .int .i64 (f 3).b, .int .i64 (f 4).a, .int .i64 (f 4).b, .int .i64 (f 5).a, .int .i64 (f 5).b], .int .i64 way] w fun e w' => e = .returned (.agg #[.int .i64 (sumsV f way 6 0 0).a, .int .i64 (sumsV f way 6 0 0).b, .int .i64 (sumsV f way 6 0 1).a, .int .i64 (sumsV f way 6 0 1).b, .int .i64 (sumsV f way 6 0 2).a, .int .i64 (sumsV f way 6 0 2).b, .int .i64 (sumsV f way 6 0 3).a, .int .i64 (sumsV f way 6 0 3).b, .int .i64 (sumsV f way 6 0 4).a, .int .i64 (sumsV f way 6 0 4).b, .int .i64 (sumsV f way 6 0 5).a, .int .i64 (sumsV f way 6 0 5).b]) ∧ Below w.heap.size w w' := by
  have HF := Lib.hid hf
  have w0 : -1 ≤ way ∧ way ≤ 1 := by omega
  have F0 : Hid (Fr w _ [(w.heap.size + 1 + 1, 25, #[.int .i64 (sumsV f way 0 0 0).a, .int .i64 (sumsV f way 0 0 0).b, .int .i64 (sumsV f way 0 0 1).a, .int .i64 (sumsV f way 0 0 1).b, .int .i64 (sumsV f way 0 0 2).a, .int .i64 (sumsV f way 0 0 2).b, .int .i64 (sumsV f way 0 0 3).a, .int .i64 (sumsV f way 0 0 3).b, .int .i64 (sumsV f way 0 0 4).a, .int .i64 (sumsV f way 0 0 4).b, .int .i64 (sumsV f way 0 0 5).a, .int .i64 (sumsV f way 0 0 5).b]), (w.heap.size + 1, 25, #[.int .i64 0, .int .i64 0, .int .i64 0, .int .i64 0, .int .i64 0, .int .i64 0, .int .i64 0, .int .i64 0, .int .i64 0, .int .i64 0, .int .i64 0, .int .i64 0]), (w.heap.size, 25, #[.int .i64 (f 0).a, .int .i64 (f 0).b, .int .i64 (f 1).a, .int .i64 (f 1).b, .int .i64 (f 2).a, .int .i64 (f 2).b, .int .i64 (f 3).a, .int .i64 (f 3).b, .int .i64 (f 4).a, .int .i64 (f 4).b, .int .i64 (f 5).a, .int .i64 (f 5).b])]) := Lib.hid (by
    rw [zero12]
    exact Fr.b3 w 25 #[.int .i64 (f 0).a, .int .i64 (f 0).b, .int .i64 (f 1).a, .int .i64 (f 1).b, .int .i64 (f 2).a, .int .i64 (f 2).b, .int .i64 (f 3).a, .int .i64 (f 3).b, .int .i64 (f 4).a, .int .i64 (f 4).b, .int .i64 (f 5).a, .int .i64 (f 5).b] 25 #[.int .i64 0, .int .i64 0, .int .i64 0, .int .i64 0, .int .i64 0, .int .i64 0, .int .i64 0, .int .i64 0, .int .i64 0, .int .i64 0, .int .i64 0, .int .i64 0] 25 #[.int .i64 0, .int .i64 0, .int .i64 0, .int .i64 0, .int .i64 0, .int .i64 0, .int .i64 0, .int .i64 0, .int .i64 0, .int .i64 0, .int .i64 0, .int .i64 0])
  clear hf hw
  go_enter Tryd.func55, Tryd.ntmps55
  go_wp2_with fail
  go_loopw [9] (fun i wr => ∃ k : Nat, k ≤ 6 ∧ i = .int .i64 k ∧ Fr w wr [(w.heap.size + 1 + 1, 25, #[.int .i64 (sumsV f way k 0 0).a, .int .i64 (sumsV f way k 0 0).b, .int .i64 (sumsV f way k 0 1).a, .int .i64 (sumsV f way k 0 1).b, .int .i64 (sumsV f way k 0 2).a, .int .i64 (sumsV f way k 0 2).b, .int .i64 (sumsV f way k 0 3).a, .int .i64 (sumsV f way k 0 3).b, .int .i64 (sumsV f way k 0 4).a, .int .i64 (sumsV f way k 0 4).b, .int .i64 (sumsV f way k 0 5).a, .int .i64 (sumsV f way k 0 5).b]), (w.heap.size + 1, 25, #[.int .i64 0, .int .i64 0, .int .i64 0, .int .i64 0, .int .i64 0, .int .i64 0, .int .i64 0, .int .i64 0, .int .i64 0, .int .i64 0, .int .i64 0, .int .i64 0]), (w.heap.size, 25, #[.int .i64 (f 0).a, .int .i64 (f 0).b, .int .i64 (f 1).a, .int .i64 (f 1).b, .int .i64 (f 2).a, .int .i64 (f 2).b, .int .i64 (f 3).a, .int .i64 (f 3).b, .int .i64 (f 4).a, .int .i64 (f 4).b, .int .i64 (f 5).a, .int .i64 (f 5).b])]) (fun i _ => 6 - (intOf i).toNat)
  case atStart => exact ⟨0, by omega, rfl, F0.out⟩
  case round =>
    obtain ⟨k, hk, rfl, hfr⟩ := hrel
    have FK := Lib.hid hfr
    clear hfr F0
    by_cases hlt : k < 6
    · have hk6 := hlt
      have hlt' : (k : Int) < 6 := by omega
      have v0 := FK.out.at2.cell 0
      have v1 := FK.out.at2.cell 1
      have v2 := FK.out.at2.cell 2
      have v3 := FK.out.at2.cell 3
      have v4 := FK.out.at2.cell 4
      have v5 := FK.out.at2.cell 5
      have v6 := FK.out.at2.cell 6
      have v7 := FK.out.at2.cell 7
      have v8 := FK.out.at2.cell 8
      have v9 := FK.out.at2.cell 9
      have v10 := FK.out.at2.cell 10
      have v11 := FK.out.at2.cell 11
      go_wp2_with fail
      clear v0 v1 v2 v3 v4 v5 v6 v7 v8 v9 v10 v11
      go_loopw [13] (fun i wr => ∃ n : Nat, n ≤ 6 ∧ i = .int .i64 n ∧ Fr w wr [(w.heap.size + 1 + 1, 25, #[.int .i64 (sumsV f way k n 0).a, .int .i64 (sumsV f way k n 0).b, .int .i64 (sumsV f way k n 1).a, .int .i64 (sumsV f way k n 1).b, .int .i64 (sumsV f way k n 2).a, .int .i64 (sumsV f way k n 2).b, .int .i64 (sumsV f way k n 3).a, .int .i64 (sumsV f way k n 3).b, .int .i64 (sumsV f way k n 4).a, .int .i64 (sumsV f way k n 4).b, .int .i64 (sumsV f way k n 5).a, .int .i64 (sumsV f way k n 5).b]), (w.heap.size + 1, 25, #[.int .i64 0, .int .i64 0, .int .i64 0, .int .i64 0, .int .i64 0, .int .i64 0, .int .i64 0, .int .i64 0, .int .i64 0, .int .i64 0, .int .i64 0, .int .i64 0]), (w.heap.size, 25, #[.int .i64 (f 0).a, .int .i64 (f 0).b, .int .i64 (f 1).a, .int .i64 (f 1).b, .int .i64 (f 2).a, .int .i64 (f 2).b, .int .i64 (f 3).a, .int .i64 (f 3).b, .int .i64 (f 4).a, .int .i64 (f 4).b, .int .i64 (f 5).a, .int .i64 (f 5).b])]) (fun i _ => 6 - (intOf i).toNat)
      case atStart => exact ⟨0, by omega, rfl, FK.out⟩
      case round =>
        obtain ⟨n, hn, rfl, hfr⟩ := hrel
        have FN := Lib.hid hfr
        clear hfr FK
        by_cases hnt : n < 6
        · have hnt' : (n : Int) < 6 := by omega
          have i0 := idxT f hnt
          have mk := mulB (x := way) (y := (k : Int)) (A := 1) (B := 6) w0 ⟨by omega, by omega⟩
          have mn := mulB (x := way * (k : Int)) (y := (n : Int)) (A := 6) (B := 6) ⟨by omega, by omega⟩ ⟨by omega, by omega⟩
          have W1 : Hid (IntKind.i64.wrap (way * (k : Int)) = way * (k : Int)) := Lib.hid (IntWalk.i64_in _ ⟨by omega, by omega⟩)
          have W2 : Hid (IntKind.i64.wrap (way * (k : Int) * (n : Int)) = way * (k : Int) * (n : Int)) := Lib.hid (IntWalk.i64_in _ ⟨by omega, by omega⟩)
          have HTU := Lib.hid (turned_any (f n) (way * (k : Int) * (n : Int)) ((HF.out n).more (by omega)))
          have HPL := Lib.hid (plus_any (tsum f way k n) (turned (f n) (way * (k : Int) * (n : Int))) ((tsum_bd HF.out k n (by omega)).bd.more (by omega)) (((HF.out n).turnN _).bd.more (by omega)))
          have zz := FN.out.top.lt
          clear mk mn
          go_upto_region 8 with fail
          clear i0
          have F8 : Fr w _ [(w.heap.size + 1 + 1, 25, #[.int .i64 (sumsV f way k n 0).a, .int .i64 (sumsV f way k n 0).b, .int .i64 (sumsV f way k n 1).a, .int .i64 (sumsV f way k n 1).b, .int .i64 (sumsV f way k n 2).a, .int .i64 (sumsV f way k n 2).b, .int .i64 (sumsV f way k n 3).a, .int .i64 (sumsV f way k n 3).b, .int .i64 (sumsV f way k n 4).a, .int .i64 (sumsV f way k n 4).b, .int .i64 (sumsV f way k n 5).a, .int .i64 (sumsV f way k n 5).b]), (wr.heap.size, 24, #[.int .i64 (f n).a, .int .i64 (f n).b]), (w.heap.size + 1, 25, #[.int .i64 0, .int .i64 0, .int .i64 0, .int .i64 0, .int .i64 0, .int .i64 0, .int .i64 0, .int .i64 0, .int .i64 0, .int .i64 0, .int .i64 0, .int .i64 0]), (w.heap.size, 25, #[.int .i64 (f 0).a, .int .i64 (f 0).b, .int .i64 (f 1).a, .int .i64 (f 1).b, .int .i64 (f 2).a, .int .i64 (f 2).b, .int .i64 (f 3).a, .int .i64 (f 3).b, .int .i64 (f 4).a, .int .i64 (f 4).b, .int .i64 (f 5).a, .int .i64 (f 5).b])] := (FN.out.box 24 #[.int .i64 (f n).a, .int .i64 (f n).b]).swap
          have HALL : Hid (∀ W, Fr w W [(w.heap.size + 1 + 1, 25, #[.int .i64 (sumsV f way k n 0).a, .int .i64 (sumsV f way k n 0).b, .int .i64 (sumsV f way k n 1).a, .int .i64 (sumsV f way k n 1).b, .int .i64 (sumsV f way k n 2).a, .int .i64 (sumsV f way k n 2).b, .int .i64 (sumsV f way k n 3).a, .int .i64 (sumsV f way k n 3).b, .int .i64 (sumsV f way k n 4).a, .int .i64 (sumsV f way k n 4).b, .int .i64 (sumsV f way k n 5).a, .int .i64 (sumsV f way k n 5).b]), (wr.heap.size, 24, #[.int .i64 (f n).a, .int .i64 (f n).b]), (w.heap.size + 1, 25, #[.int .i64 0, .int .i64 0, .int .i64 0, .int .i64 0, .int .i64 0, .int .i64 0, .int .i64 0, .int .i64 0, .int .i64 0, .int .i64 0, .int .i64 0, .int .i64 0]), (w.heap.size, 25, #[.int .i64 (f 0).a, .int .i64 (f 0).b, .int .i64 (f 1).a, .int .i64 (f 1).b, .int .i64 (f 2).a, .int .i64 (f 2).b, .int .i64 (f 3).a, .int .i64 (f 3).b, .int .i64 (f 4).a, .int .i64 (f 4).b, .int .i64 (f 5).a, .int .i64 (f 5).b])] → Fr w W [(w.heap.size + 1 + 1, 25, #[.int .i64 (sumsV f way k n 0).a, .int .i64 (sumsV f way k n 0).b, .int .i64 (sumsV f way k n 1).a, .int .i64 (sumsV f way k n 1).b, .int .i64 (sumsV f way k n 2).a, .int .i64 (sumsV f way k n 2).b, .int .i64 (sumsV f way k n 3).a, .int .i64 (sumsV f way k n 3).b, .int .i64 (sumsV f way k n 4).a, .int .i64 (sumsV f way k n 4).b, .int .i64 (sumsV f way k n 5).a, .int .i64 (sumsV f way k n 5).b]), (wr.heap.size, 24, #[.int .i64 (f n).a, .int .i64 (f n).b]), (w.heap.size + 1, 25, #[.int .i64 0, .int .i64 0, .int .i64 0, .int .i64 0, .int .i64 0, .int .i64 0, .int .i64 0, .int .i64 0, .int .i64 0, .int .i64 0, .int .i64 0, .int .i64 0]), (w.heap.size, 25, #[.int .i64 (f 0).a, .int .i64 (f 0).b, .int .i64 (f 1).a, .int .i64 (f 1).b, .int .i64 (f 2).a, .int .i64 (f 2).b, .int .i64 (f 3).a, .int .i64 (f 3).b, .int .i64 (f 4).a, .int .i64 (f 4).b, .int .i64 (f 5).a, .int .i64 (f 5).b])] ∧ W.cell? ⟨w.heap.size + 1 + 1, k * 2, none⟩ = some (.int .i64 (tsum f way k n).a) ∧ W.cell? ⟨w.heap.size + 1 + 1, k * 2 + 1, none⟩ = some (.int .i64 (tsum f way k n).b) ∧ W.cell? ⟨wr.heap.size, 0, none⟩ = some (.int .i64 (f n).a) ∧ W.cell? ⟨wr.heap.size, 1, none⟩ = some (.int .i64 (f n).b)) := Lib.hid (fun W hW => ⟨hW, (hW.tcell hk6).1.trans (by rw [sums_at]), (hW.tcell hk6).2.trans (by rw [sums_at]), hW.at1.cell 0, hW.at1.cell 1⟩)
          have hw1 := W1.out
          have hw2 := W2.out
          clear FN
          refine Tw_start 13 (fun W => Fr w W [(w.heap.size + 1 + 1, 25, #[.int .i64 (sumsV f way k n 0).a, .int .i64 (sumsV f way k n 0).b, .int .i64 (sumsV f way k n 1).a, .int .i64 (sumsV f way k n 1).b, .int .i64 (sumsV f way k n 2).a, .int .i64 (sumsV f way k n 2).b, .int .i64 (sumsV f way k n 3).a, .int .i64 (sumsV f way k n 3).b, .int .i64 (sumsV f way k n 4).a, .int .i64 (sumsV f way k n 4).b, .int .i64 (sumsV f way k n 5).a, .int .i64 (sumsV f way k n 5).b]), (wr.heap.size, 24, #[.int .i64 (f n).a, .int .i64 (f n).b]), (w.heap.size + 1, 25, #[.int .i64 0, .int .i64 0, .int .i64 0, .int .i64 0, .int .i64 0, .int .i64 0, .int .i64 0, .int .i64 0, .int .i64 0, .int .i64 0, .int .i64 0, .int .i64 0]), (w.heap.size, 25, #[.int .i64 (f 0).a, .int .i64 (f 0).b, .int .i64 (f 1).a, .int .i64 (f 1).b, .int .i64 (f 2).a, .int .i64 (f 2).b, .int .i64 (f 3).a, .int .i64 (f 3).b, .int .i64 (f 4).a, .int .i64 (f 4).b, .int .i64 (f 5).a, .int .i64 (f 5).b])] ∧ W.cell? ⟨w.heap.size + 1 + 1, k * 2, none⟩ = some (.int .i64 (tsum f way k n).a) ∧ W.cell? ⟨w.heap.size + 1 + 1, k * 2 + 1, none⟩ = some (.int .i64 (tsum f way k n).b) ∧ W.cell? ⟨wr.heap.size, 0, none⟩ = some (.int .i64 (f n).a) ∧ W.cell? ⟨wr.heap.size, 1, none⟩ = some (.int .i64 (f n).b)) (by kernel_rfl) (by kernel_rfl) rfl ?_ ?_
          · (try dsimp only)
            ((go_split_ands; refine HALL.out _ ?_; (first | assumption | (repeat (first | assumption | refine Fr.new ?_ _ | refine Fr.drew ?_ | (refine Fr.set ?_ (by first | exact Nat.le_refl _ | omega | (simp; done) | (simp; omega)) (by first | (simp; done) | (simp; omega)) _))); done)))
          refine Tw_takeL (i := 0) (v := ?tv1) rfl (by kernel_rfl) (by decide) (by kernel_rfl) (by kernel_rfl) (fun _ _ _ h => h) (by rfl) ?ty1 ?tn1
          case ty1 => (intro w hSw; (try dsimp only at hSw); go_simp <;> with_reducible rfl)
          (try simp only [Act.put, List.setIfInBounds_toArray, List.set_cons_zero, List.set_cons_succ])
          refine Tw_takeL (i := 1) (v := ?tv2) rfl (by kernel_rfl) (by decide) (by kernel_rfl) (by kernel_rfl) (fun _ _ _ h => h) (by rfl) ?ty2 ?tn2
          case ty2 => (intro w hSw; (try dsimp only at hSw); go_simp <;> with_reducible rfl)
          (try simp only [Act.put, List.setIfInBounds_toArray, List.set_cons_zero, List.set_cons_succ])
          refine Tw_takeL (i := 2) (v := ?tv3) rfl (by kernel_rfl) (by decide) (by kernel_rfl) (by kernel_rfl) (fun _ _ _ h => h) (by rfl) ?ty3 ?tn3
          case ty3 => (intro w hSw; (try dsimp only at hSw); go_simp <;> with_reducible rfl)
          (try simp only [Act.put, List.setIfInBounds_toArray, List.set_cons_zero, List.set_cons_succ])
          refine Tw_takeL (i := 3) (v := ?tv4) rfl (by kernel_rfl) (by decide) (by kernel_rfl) (by kernel_rfl) (fun _ _ _ h => h) (by rfl) ?ty4 ?tn4
          case ty4 => (intro w hSw; (try dsimp only at hSw); go_simp <;> with_reducible rfl)
          (try simp only [Act.put, List.setIfInBounds_toArray, List.set_cons_zero, List.set_cons_succ])
          refine Tw_takeL (i := 4) (v := ?tv5) rfl (by kernel_rfl) (by decide) (by kernel_rfl) (by kernel_rfl) (fun _ _ _ h => h) (by rfl) ?ty5 ?tn5
          case ty5 => (intro w hSw; (try dsimp only at hSw); go_simp <;> with_reducible rfl)
          (try simp only [Act.put, List.setIfInBounds_toArray, List.set_cons_zero, List.set_cons_succ])
          refine Tw_takeL (i := 5) (v := ?tv6) rfl (by kernel_rfl) (by decide) (by kernel_rfl) (by kernel_rfl) (fun _ _ _ h => h) (by rfl) ?ty6 ?tn6
          case ty6 => (intro w hSw; (try dsimp only at hSw); go_simp <;> with_reducible rfl)
          (try simp only [Act.put, List.setIfInBounds_toArray, List.set_cons_zero, List.set_cons_succ])
          refine Tw_takeL (i := 6) (v := ?tv7) rfl (by kernel_rfl) (by decide) (by kernel_rfl) (by kernel_rfl) (fun _ _ _ h => h) (by rfl) ?ty7 ?tn7
          case ty7 => (intro w hSw; (try dsimp only at hSw); go_simp <;> with_reducible rfl)
          (try simp only [Act.put, List.setIfInBounds_toArray, List.set_cons_zero, List.set_cons_succ])
          refine Tw_takeL (i := 7) (v := ?tv8) rfl (by kernel_rfl) (by decide) (by kernel_rfl) (by kernel_rfl) (fun _ _ _ h => h) (by rfl) ?ty8 ?tn8
          case ty8 => (intro w hSw; (try dsimp only at hSw); go_simp <;> with_reducible rfl)
          (try simp only [Act.put, List.setIfInBounds_toArray, List.set_cons_zero, List.set_cons_succ])
          refine Tw_takeL (i := 8) (v := ?tv9) rfl (by kernel_rfl) (by decide) (by kernel_rfl) (by kernel_rfl) (fun _ _ _ h => h) (by rfl) ?ty9 ?tn9
          case ty9 => (intro w hSw; (try dsimp only at hSw); go_simp <;> with_reducible rfl)
          (try simp only [Act.put, List.setIfInBounds_toArray, List.set_cons_zero, List.set_cons_succ])
          refine Tw_takeL (i := 9) (v := ?tv10) rfl (by kernel_rfl) (by decide) (by kernel_rfl) (by kernel_rfl) (fun _ _ _ h => h) (by rfl) ?ty10 ?tn10
          case ty10 => (intro w hSw; (try dsimp only at hSw); go_simp <;> with_reducible rfl)
          (try simp only [Act.put, List.setIfInBounds_toArray, List.set_cons_zero, List.set_cons_succ])
          refine Tw_all (rs := [10]) (by kernel_rfl) (by simp) (by decide) (fun hHeld => ?_)
          refine AllT.consL rfl (fun K hK => ?_) AllT.nil
          go_simp
          (go_at_call 82; go_split_ands; (with_reducible refine (HTU.out _).mono ?_); rintro e w7 ⟨rfl, hb7⟩; have F4 := Fr.call (by assumption) hb7; clear hb7)
          refine hK.out _ _ ?_ ?_
          · (try dsimp only)
            ((go_split_ands; refine HALL.out _ ?_; (first | assumption | (repeat (first | assumption | refine Fr.new ?_ _ | refine Fr.drew ?_ | (refine Fr.set ?_ (by first | exact Nat.le_refl _ | omega | (simp; done) | (simp; omega)) (by first | (simp; done) | (simp; omega)) _))); done)))
          clear hK K
          (try simp only [Act.put, List.setIfInBounds_toArray, List.set_cons_zero, List.set_cons_succ])
          refine Tw_all (rs := [11]) (by kernel_rfl) (by simp) (by decide) (fun hHeld => ?_)
          refine AllT.consL rfl (fun K hK => ?_) AllT.nil
          go_simp
          (go_at_call 69; go_split_ands; (with_reducible refine (HPL.out _).mono ?_); rintro e w7 ⟨rfl, hb7⟩; have F4 := Fr.call (by assumption) hb7; clear hb7)
          refine hK.out _ _ ?_ ?_
          · (try dsimp only)
            ((go_split_ands; refine HALL.out _ ?_; (first | assumption | (repeat (first | assumption | refine Fr.new ?_ _ | refine Fr.drew ?_ | (refine Fr.set ?_ (by first | exact Nat.le_refl _ | omega | (simp; done) | (simp; omega)) (by first | (simp; done) | (simp; omega)) _))); done)))
          clear hK K
          (try simp only [Act.put, List.setIfInBounds_toArray, List.set_cons_zero, List.set_cons_succ])
          refine Tw_takeL (i := 12) (v := ?tv11) rfl (by kernel_rfl) (by decide) (by kernel_rfl) (by kernel_rfl) (fun _ _ _ h => h) (by rfl) ?ty11 ?tn11
          case ty11 => (intro w hSw; (try dsimp only at hSw); go_simp <;> with_reducible rfl)
          (try simp only [Act.put, List.setIfInBounds_toArray, List.set_cons_zero, List.set_cons_succ])
          refine Tw_end (by kernel_rfl) (fun hh => ?_)
          obtain ⟨F11, _⟩ := hh
          clear HALL hw1 hw2
          have F12 := Lib.hid F11
          clear F11
          obtain ⟨c0, c1⟩ := F12.out.tcell hk6
          have g0 := F12.out.top.frozen (k * 2)
          have g1 := F12.out.top.frozen (k * 2 + 1)
          go_wp2_with fail
          go_roundw
          case rel => exact ⟨n + 1, by omega, by go_num, by
            have h := F12.out.putT hk6 ((tsum f way k n).add (turned (f n) (way * (k : Int) * (n : Int)))) (by omega) (by simp; omega)
            rw [sums_next] at h
            exact h.swap.tail⟩
          case measure => simp [intOf]; omega
        · obtain rfl : n = 6 := by omega
          go_wp2_with fail
          go_roundw
          case rel => exact ⟨k + 1, by omega, by go_num, by have h := FN.out; rw [sums_row] at h; exact h⟩
          case measure => simp [intOf]; omega
    · obtain rfl : k = 6 := by omega
      have v0 := FK.out.top.cell 0
      have v1 := FK.out.top.cell 1
      have v2 := FK.out.top.cell 2
      have v3 := FK.out.top.cell 3
      have v4 := FK.out.top.cell 4
      have v5 := FK.out.top.cell 5
      have v6 := FK.out.top.cell 6
      have v7 := FK.out.top.cell 7
      have v8 := FK.out.top.cell 8
      have v9 := FK.out.top.cell 9
      have v10 := FK.out.top.cell 10
      have v11 := FK.out.top.cell 11
      have r0 := FK.out.at1.cell 0
      have r1 := FK.out.at1.cell 1
      have r2 := FK.out.at1.cell 2
      have r3 := FK.out.at1.cell 3
      have r4 := FK.out.at1.cell 4
      have r5 := FK.out.at1.cell 5
      have r6 := FK.out.at1.cell 6
      have r7 := FK.out.at1.cell 7
      have r8 := FK.out.at1.cell 8
      have r9 := FK.out.at1.cell 9
      have r10 := FK.out.at1.cell 10
      have r11 := FK.out.at1.cell 11
      have g0 := FK.out.at1.frozen 0
      have g1 := FK.out.at1.frozen 1
      have g2 := FK.out.at1.frozen 2
      have g3 := FK.out.at1.frozen 3
      have g4 := FK.out.at1.frozen 4
      have g5 := FK.out.at1.frozen 5
      have g6 := FK.out.at1.frozen 6
      have g7 := FK.out.at1.frozen 7
      have g8 := FK.out.at1.frozen 8
      have g9 := FK.out.at1.frozen 9
      have g10 := FK.out.at1.frozen 10
      have g11 := FK.out.at1.frozen 11
      go_wp2_with fail
      have BR := FK.out.at1
      refine wpQ_abs (Q := bodyPost _ _ _) ?_
      intro W' hW'
      have B2 : Bk W' (w.heap.size + 1) 25 #[.int .i64 (sumsV f way 6 0 0).a, .int .i64 (sumsV f way 6 0 0).b, .int .i64 (sumsV f way 6 0 1).a, .int .i64 (sumsV f way 6 0 1).b, .int .i64 (sumsV f way 6 0 2).a, .int .i64 (sumsV f way 6 0 2).b, .int .i64 (sumsV f way 6 0 3).a, .int .i64 (sumsV f way 6 0 3).b, .int .i64 (sumsV f way 6 0 4).a, .int .i64 (sumsV f way 6 0 4).b, .int .i64 (sumsV f way 6 0 5).a, .int .i64 (sumsV f way 6 0 5).b] := by rw [← hW']; exact Bk.put12 BR
      have BL := Lib.hid (show Below w.heap.size w W' by rw [← hW']; exact ((((((((((((FK.out.bl.setCell (by simp) _).setCell (by simp) _).setCell (by simp) _).setCell (by simp) _).setCell (by simp) _).setCell (by simp) _).setCell (by simp) _).setCell (by simp) _).setCell (by simp) _).setCell (by simp) _).setCell (by simp) _).setCell (by simp) _))
      clear hW' v0 v1 v2 v3 v4 v5 v6 v7 v8 v9 v10 v11 r0 r1 r2 r3 r4 r5 r6 r7 r8 r9 r10 r11 g0 g1 g2 g3 g4 g5 g6 g7 g8 g9 g10 g11
      have q0 := B2.cell 0
      have q1 := B2.cell 1
      have q2 := B2.cell 2
      have q3 := B2.cell 3
      have q4 := B2.cell 4
      have q5 := B2.cell 5
      have q6 := B2.cell 6
      have q7 := B2.cell 7
      have q8 := B2.cell 8
      have q9 := B2.cell 9
      have q10 := B2.cell 10
      have q11 := B2.cell 11
      exact bodyPost_ret (v := .agg #[.int .i64 (sumsV f way 6 0 0).a, .int .i64 (sumsV f way 6 0 0).b, .int .i64 (sumsV f way 6 0 1).a, .int .i64 (sumsV f way 6 0 1).b, .int .i64 (sumsV f way 6 0 2).a, .int .i64 (sumsV f way 6 0 2).b, .int .i64 (sumsV f way 6 0 3).a, .int .i64 (sumsV f way 6 0 3).b, .int .i64 (sumsV f way 6 0 4).a, .int .i64 (sumsV f way 6 0 4).b, .int .i64 (sumsV f way 6 0 5).a, .int .i64 (sumsV f way 6 0 5).b]) (by simp [results, Tryd.results55, go_sem, q0, q1, q2, q3, q4, q5, q6, q7, q8, q9, q10, q11]) rfl ⟨rfl, BL.out⟩
end Go.Proofs.YtohldmmfnjfgmaaDoor
