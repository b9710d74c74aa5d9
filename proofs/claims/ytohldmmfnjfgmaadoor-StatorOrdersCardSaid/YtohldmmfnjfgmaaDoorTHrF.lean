
/-
  The walk of the reference's samples.
-/
import Derived.Test.YtohldmmfnjfgmaaDoorTHrE
namespace Go.Proofs.YtohldmmfnjfgmaaDoor
open Go.RowKit

theorem Fr.put2 {w W : World} {bs : List (Nat × TypeId × Array Value)} {g : Nat} {t : TypeId} {a b : Value} (h : Fr w W ((g, t, #[a, b]) :: bs)) (x y : Value) (hg : w.heap.size ≤ g) (hn : ∀ b ∈ bs, b.1 ≠ g) : Fr w ((W.setCell ⟨g, 0, none⟩ x).setCell ⟨g, 1, none⟩ y) ((g, t, #[x, y]) :: bs) := by
  have := (h.put 0 x hg hn).put 1 y hg hn
  simpa using this
theorem quo0 (h : Nat → T3) : #[.int .i64 0, .int .i64 0, .int .i64 0, .int .i64 0, .int .i64 0, .int .i64 0] = (#[.int .i64 (quoK h 0 0), .int .i64 (quoK h 0 1), .int .i64 (quoK h 0 2), .int .i64 (quoK h 0 3), .int .i64 (quoK h 0 4), .int .i64 (quoK h 0 5)] : Array Value) := (quo_zero h).symm
set_option maxHeartbeats 8000000 in
set_option maxRecDepth 100000 in
theorem refSamplesOf_any (h : Nat → T3) (hz : ∀ i, 6 ≤ i → h i = T3.zero) (hok : okH h = true) (hin : ∀ i, (h i).In 2000000) (w : World) : Calls Tryd.prog 17 #[.agg #[.int .i64 (h 0).a, .int .i64 (h 0).b, .int .i64 (h 1).a, .int .i64 (h 1).b, .int .i64 (h 2).a, .int .i64 (h 2).b, .int .i64 (h 3).a, .int .i64 (h 3).b, .int .i64 (h 4).a, .int .i64 (h 4).b, .int .i64 (h 5).a, .int .i64 (h 5).b]] w (SmpPost w h) := by
  have HOK := Lib.hid hok
  have HIN := Lib.hid hin
  have F0 : Hid (Fr w _ [(w.heap.size + 1 + 1, 22, #[.int .i64 (quoK h 0 0), .int .i64 (quoK h 0 1), .int .i64 (quoK h 0 2), .int .i64 (quoK h 0 3), .int .i64 (quoK h 0 4), .int .i64 (quoK h 0 5)]), (w.heap.size + 1, 22, #[.int .i64 0, .int .i64 0, .int .i64 0, .int .i64 0, .int .i64 0, .int .i64 0]), (w.heap.size, 25, #[.int .i64 (h 0).a, .int .i64 (h 0).b, .int .i64 (h 1).a, .int .i64 (h 1).b, .int .i64 (h 2).a, .int .i64 (h 2).b, .int .i64 (h 3).a, .int .i64 (h 3).b, .int .i64 (h 4).a, .int .i64 (h 4).b, .int .i64 (h 5).a, .int .i64 (h 5).b])]) := Lib.hid (by
    rw [quo_zero]
    exact Fr.b3 w 25 #[.int .i64 (h 0).a, .int .i64 (h 0).b, .int .i64 (h 1).a, .int .i64 (h 1).b, .int .i64 (h 2).a, .int .i64 (h 2).b, .int .i64 (h 3).a, .int .i64 (h 3).b, .int .i64 (h 4).a, .int .i64 (h 4).b, .int .i64 (h 5).a, .int .i64 (h 5).b] 22 #[.int .i64 0, .int .i64 0, .int .i64 0, .int .i64 0, .int .i64 0, .int .i64 0] 22 #[.int .i64 0, .int .i64 0, .int .i64 0, .int .i64 0, .int .i64 0, .int .i64 0])
  clear hz hok hin
  go_enter Tryd.func17, Tryd.ntmps17
  go_wp2_with fail
  go_loopw [5] (fun i wr => ∃ n : Nat, n ≤ 6 ∧ i = .int .i64 n ∧ (∀ j, j < n → frm (backV h j) = true) ∧ Fr w wr [(w.heap.size + 1 + 1, 22, #[.int .i64 (quoK h n 0), .int .i64 (quoK h n 1), .int .i64 (quoK h n 2), .int .i64 (quoK h n 3), .int .i64 (quoK h n 4), .int .i64 (quoK h n 5)]), (w.heap.size + 1, 22, #[.int .i64 0, .int .i64 0, .int .i64 0, .int .i64 0, .int .i64 0, .int .i64 0]), (w.heap.size, 25, #[.int .i64 (h 0).a, .int .i64 (h 0).b, .int .i64 (h 1).a, .int .i64 (h 1).b, .int .i64 (h 2).a, .int .i64 (h 2).b, .int .i64 (h 3).a, .int .i64 (h 3).b, .int .i64 (h 4).a, .int .i64 (h 4).b, .int .i64 (h 5).a, .int .i64 (h 5).b])]) (fun i _ => 6 - (intOf i).toNat)
  case atStart => exact ⟨0, by omega, rfl, fun j hj => by omega, F0.out⟩
  case round =>
    obtain ⟨n, hn, rfl, hp, hfr⟩ := hrel
    have FN := Lib.hid hfr
    have HQ := Lib.hid hp
    clear hfr hp F0
    obtain ⟨w1, rfl⟩ : ∃ W, W = wr := ⟨_, rfl⟩
    by_cases hnt : n < 6
    · have hnt' : (n : Int) < 6 := by omega
      have zz := FN.out.top.lt
      have zs := FN.out.size
      have G0 : Hid (Fr w _ [(w1.heap.size, 24, #[.int .i64 (tsum h 1 n 0).a, .int .i64 (tsum h 1 n 0).b]), (w.heap.size + 1 + 1, 22, #[.int .i64 (quoK h n 0), .int .i64 (quoK h n 1), .int .i64 (quoK h n 2), .int .i64 (quoK h n 3), .int .i64 (quoK h n 4), .int .i64 (quoK h n 5)]), (w.heap.size + 1, 22, #[.int .i64 0, .int .i64 0, .int .i64 0, .int .i64 0, .int .i64 0, .int .i64 0]), (w.heap.size, 25, #[.int .i64 (h 0).a, .int .i64 (h 0).b, .int .i64 (h 1).a, .int .i64 (h 1).b, .int .i64 (h 2).a, .int .i64 (h 2).b, .int .i64 (h 3).a, .int .i64 (h 3).b, .int .i64 (h 4).a, .int .i64 (h 4).b, .int .i64 (h 5).a, .int .i64 (h 5).b])]) := Lib.hid (FN.out.box 24 #[.int .i64 0, .int .i64 0])
      clear FN
      go_wp2_with fail
      go_loopw [7] (fun i wr => ∃ k : Nat, k ≤ 6 ∧ i = .int .i64 k ∧ Fr w wr [(w1.heap.size, 24, #[.int .i64 (tsum h 1 n k).a, .int .i64 (tsum h 1 n k).b]), (w.heap.size + 1 + 1, 22, #[.int .i64 (quoK h n 0), .int .i64 (quoK h n 1), .int .i64 (quoK h n 2), .int .i64 (quoK h n 3), .int .i64 (quoK h n 4), .int .i64 (quoK h n 5)]), (w.heap.size + 1, 22, #[.int .i64 0, .int .i64 0, .int .i64 0, .int .i64 0, .int .i64 0, .int .i64 0]), (w.heap.size, 25, #[.int .i64 (h 0).a, .int .i64 (h 0).b, .int .i64 (h 1).a, .int .i64 (h 1).b, .int .i64 (h 2).a, .int .i64 (h 2).b, .int .i64 (h 3).a, .int .i64 (h 3).b, .int .i64 (h 4).a, .int .i64 (h 4).b, .int .i64 (h 5).a, .int .i64 (h 5).b])]) (fun i _ => 6 - (intOf i).toNat)
      case atStart => exact ⟨0, by omega, rfl, G0.out⟩
      case round =>
        obtain ⟨k, hk, rfl, hfr⟩ := hrel
        have FK := Lib.hid hfr
        clear hfr G0
        by_cases hlt : k < 6
        · have hk6 := hlt
          have hlt' : (k : Int) < 6 := by omega
          have mn := mulB (x := (k : Int)) (y := (n : Int)) (A := 6) (B := 6) ⟨by omega, by omega⟩ ⟨by omega, by omega⟩
          have W3 : Hid (IntKind.i64.wrap ((k : Int) * (n : Int)) = (k : Int) * (n : Int)) := Lib.hid (IntWalk.i64_in _ ⟨by omega, by omega⟩)
          have E3 : Hid ((k : Int) * (n : Int) = 1 * (n : Int) * (k : Int)) := Lib.hid (by rw [Int.one_mul, Int.mul_comm])
          have HTU : Hid (∀ w, Calls Tryd.prog 58 #[(.agg #[.int .i64 (h k).a, .int .i64 (h k).b]), .int .i64 ((k : Int) * (n : Int))] w fun e w' => e = .returned (.agg #[.int .i64 (turned (h k) ((k : Int) * (n : Int))).a, .int .i64 (turned (h k) ((k : Int) * (n : Int))).b]) ∧ Below w.heap.size w w') := Lib.hid (fun w => refTurned_any (h k) ((k : Int) * (n : Int)) ((HIN.out k).more (by omega)) w)
          have HPL := Lib.hid (TAdd_any (tsum h 1 n k) (turned (h k) ((k : Int) * (n : Int))) ((tsum_bd HIN.out n k (by omega)).bd.more (by omega)) (((HIN.out k).turnN _).bd.more (by omega)))
          clear mn
          go_upto_region 9 with fail
          have F8 : Fr w _ [(w1.heap.size, 24, #[.int .i64 (tsum h 1 n k).a, .int .i64 (tsum h 1 n k).b]), (w.heap.size + 1 + 1, 22, #[.int .i64 (quoK h n 0), .int .i64 (quoK h n 1), .int .i64 (quoK h n 2), .int .i64 (quoK h n 3), .int .i64 (quoK h n 4), .int .i64 (quoK h n 5)]), (w.heap.size + 1, 22, #[.int .i64 0, .int .i64 0, .int .i64 0, .int .i64 0, .int .i64 0, .int .i64 0]), (w.heap.size, 25, #[.int .i64 (h 0).a, .int .i64 (h 0).b, .int .i64 (h 1).a, .int .i64 (h 1).b, .int .i64 (h 2).a, .int .i64 (h 2).b, .int .i64 (h 3).a, .int .i64 (h 3).b, .int .i64 (h 4).a, .int .i64 (h 4).b, .int .i64 (h 5).a, .int .i64 (h 5).b])] := FK.out
          have HALL : Hid (∀ W, Fr w W [(w1.heap.size, 24, #[.int .i64 (tsum h 1 n k).a, .int .i64 (tsum h 1 n k).b]), (w.heap.size + 1 + 1, 22, #[.int .i64 (quoK h n 0), .int .i64 (quoK h n 1), .int .i64 (quoK h n 2), .int .i64 (quoK h n 3), .int .i64 (quoK h n 4), .int .i64 (quoK h n 5)]), (w.heap.size + 1, 22, #[.int .i64 0, .int .i64 0, .int .i64 0, .int .i64 0, .int .i64 0, .int .i64 0]), (w.heap.size, 25, #[.int .i64 (h 0).a, .int .i64 (h 0).b, .int .i64 (h 1).a, .int .i64 (h 1).b, .int .i64 (h 2).a, .int .i64 (h 2).b, .int .i64 (h 3).a, .int .i64 (h 3).b, .int .i64 (h 4).a, .int .i64 (h 4).b, .int .i64 (h 5).a, .int .i64 (h 5).b])] → Fr w W [(w1.heap.size, 24, #[.int .i64 (tsum h 1 n k).a, .int .i64 (tsum h 1 n k).b]), (w.heap.size + 1 + 1, 22, #[.int .i64 (quoK h n 0), .int .i64 (quoK h n 1), .int .i64 (quoK h n 2), .int .i64 (quoK h n 3), .int .i64 (quoK h n 4), .int .i64 (quoK h n 5)]), (w.heap.size + 1, 22, #[.int .i64 0, .int .i64 0, .int .i64 0, .int .i64 0, .int .i64 0, .int .i64 0]), (w.heap.size, 25, #[.int .i64 (h 0).a, .int .i64 (h 0).b, .int .i64 (h 1).a, .int .i64 (h 1).b, .int .i64 (h 2).a, .int .i64 (h 2).b, .int .i64 (h 3).a, .int .i64 (h 3).b, .int .i64 (h 4).a, .int .i64 (h 4).b, .int .i64 (h 5).a, .int .i64 (h 5).b])] ∧ W.cell? ⟨w1.heap.size, 0, none⟩ = some (.int .i64 (tsum h 1 n k).a) ∧ W.cell? ⟨w1.heap.size, 1, none⟩ = some (.int .i64 (tsum h 1 n k).b) ∧ W.cell? ⟨w.heap.size, k * 2, none⟩ = some (.int .i64 (h k).a) ∧ W.cell? ⟨w.heap.size, k * 2 + 1, none⟩ = some (.int .i64 (h k).b)) := Lib.hid (fun W hW => ⟨hW, hW.top.cell 0, hW.top.cell 1, (hW.at3.cell (k * 2)).trans (tc_get h hk6).1, (hW.at3.cell (k * 2 + 1)).trans (tc_get h hk6).2⟩)
          have hw3 := W3.out
          clear FK
          refine Tw_start 9 (fun W => Fr w W [(w1.heap.size, 24, #[.int .i64 (tsum h 1 n k).a, .int .i64 (tsum h 1 n k).b]), (w.heap.size + 1 + 1, 22, #[.int .i64 (quoK h n 0), .int .i64 (quoK h n 1), .int .i64 (quoK h n 2), .int .i64 (quoK h n 3), .int .i64 (quoK h n 4), .int .i64 (quoK h n 5)]), (w.heap.size + 1, 22, #[.int .i64 0, .int .i64 0, .int .i64 0, .int .i64 0, .int .i64 0, .int .i64 0]), (w.heap.size, 25, #[.int .i64 (h 0).a, .int .i64 (h 0).b, .int .i64 (h 1).a, .int .i64 (h 1).b, .int .i64 (h 2).a, .int .i64 (h 2).b, .int .i64 (h 3).a, .int .i64 (h 3).b, .int .i64 (h 4).a, .int .i64 (h 4).b, .int .i64 (h 5).a, .int .i64 (h 5).b])] ∧ W.cell? ⟨w1.heap.size, 0, none⟩ = some (.int .i64 (tsum h 1 n k).a) ∧ W.cell? ⟨w1.heap.size, 1, none⟩ = some (.int .i64 (tsum h 1 n k).b) ∧ W.cell? ⟨w.heap.size, k * 2, none⟩ = some (.int .i64 (h k).a) ∧ W.cell? ⟨w.heap.size, k * 2 + 1, none⟩ = some (.int .i64 (h k).b)) (by kernel_rfl) (by kernel_rfl) rfl ?_ ?_
          · (try dsimp only)
            ((go_split_ands; refine HALL.out _ ?_; (first | assumption | (repeat (first | assumption | refine Fr.new ?_ _ | refine Fr.drew ?_ | (refine Fr.set ?_ (by first | exact Nat.le_refl _ | omega | (simp; done) | (simp; omega)) (by first | (simp; done) | (simp; omega)) _))); done)))
          refine Tw_takeL (i := 0) (v := ?tv1) rfl (by kernel_rfl) (by decide) (by kernel_rfl) (by kernel_rfl) (fun _ _ _ h => h) (by rfl) ?ty1 ?tn1
          case ty1 => (intro w hSw; (try dsimp only at hSw); go_simp <;> with_reducible rfl)
          (try simp only [Act.put, List.setIfInBounds_toArray, List.set_cons_zero, List.set_cons_succ])
          refine Tw_takeL (i := 1) (v := ?tv2) rfl (by kernel_rfl) (by decide) (by kernel_rfl) (by kernel_rfl) (fun _ _ _ h => h) (by rfl) ?ty2 ?tn2
          case ty2 => (intro w hSw; (try dsimp only at hSw); go_simp <;> with_reducible rfl)
          (try simp only [Act.put, List.setIfInBounds_toArray, List.set_cons_zero, List.set_cons_succ])
          refine Tw_takeL (i := 2) (v := ?tv3) rfl (by kernel_rfl) (by decide) (by kernel_rfl) (by kernel_rfl) (fun _ _ _ h => h) (by rfl) ?ty3 ?tn3
          case ty3 => (intro w hSw; (try dsimp only at hSw); go_simp <;> with_reducible rfl)
          (try simp only [Act.put, List.setIfInBounds_toArray, List.set_cons_zero, List.set_cons_succ])
          refine Tw_takeL (i := 3) (v := ?tv4) rfl (by kernel_rfl) (by decide) (by kernel_rfl) (by kernel_rfl) (fun _ _ _ h => h) (by rfl) ?ty4 ?tn4
          case ty4 => (intro w hSw; (try dsimp only at hSw); go_simp <;> with_reducible rfl)
          (try simp only [Act.put, List.setIfInBounds_toArray, List.set_cons_zero, List.set_cons_succ])
          refine Tw_takeL (i := 4) (v := ?tv5) rfl (by kernel_rfl) (by decide) (by kernel_rfl) (by kernel_rfl) (fun _ _ _ h => h) (by rfl) ?ty5 ?tn5
          case ty5 => (intro w hSw; (try dsimp only at hSw); go_simp <;> with_reducible rfl)
          (try simp only [Act.put, List.setIfInBounds_toArray, List.set_cons_zero, List.set_cons_succ])
          refine Tw_takeL (i := 5) (v := ?tv6) rfl (by kernel_rfl) (by decide) (by kernel_rfl) (by kernel_rfl) (fun _ _ _ h => h) (by rfl) ?ty6 ?tn6
          case ty6 => (intro w hSw; (try dsimp only at hSw); go_simp <;> with_reducible rfl)
          (try simp only [Act.put, List.setIfInBounds_toArray, List.set_cons_zero, List.set_cons_succ])
          refine Tw_takeL (i := 6) (v := ?tv7) rfl (by kernel_rfl) (by decide) (by kernel_rfl) (by kernel_rfl) (fun _ _ _ h => h) (by rfl) ?ty7 ?tn7
          case ty7 => (intro w hSw; (try dsimp only at hSw); go_simp <;> with_reducible rfl)
          (try simp only [Act.put, List.setIfInBounds_toArray, List.set_cons_zero, List.set_cons_succ])
          refine Tw_all (rs := [7]) (by kernel_rfl) (by simp) (by decide) (fun hHeld => ?_)
          refine AllT.consL rfl (fun K hK => ?_) AllT.nil
          go_simp
          (go_at_call 58; go_split_ands; (with_reducible refine (HTU.out _).mono ?_); rintro e w7 ⟨rfl, hb7⟩; have F4 := Fr.call (by assumption) hb7; clear hb7)
          refine hK.out _ _ ?_ ?_
          · (try dsimp only)
            ((go_split_ands; refine HALL.out _ ?_; (first | assumption | (repeat (first | assumption | refine Fr.new ?_ _ | refine Fr.drew ?_ | (refine Fr.set ?_ (by first | exact Nat.le_refl _ | omega | (simp; done) | (simp; omega)) (by first | (simp; done) | (simp; omega)) _))); done)))
          clear hK K
          (try simp only [Act.put, List.setIfInBounds_toArray, List.set_cons_zero, List.set_cons_succ])
          refine Tw_all (rs := [8]) (by kernel_rfl) (by simp) (by decide) (fun hHeld => ?_)
          refine AllT.consL rfl (fun K hK => ?_) AllT.nil
          go_simp
          (go_at_call 57; go_split_ands; (with_reducible refine (HPL.out _).mono ?_); rintro e w7 ⟨rfl, hb7⟩; have F4 := Fr.call (by assumption) hb7; clear hb7)
          refine hK.out _ _ ?_ ?_
          · (try dsimp only)
            ((go_split_ands; refine HALL.out _ ?_; (first | assumption | (repeat (first | assumption | refine Fr.new ?_ _ | refine Fr.drew ?_ | (refine Fr.set ?_ (by first | exact Nat.le_refl _ | omega | (simp; done) | (simp; omega)) (by first | (simp; done) | (simp; omega)) _))); done)))
          clear hK K
          (try simp only [Act.put, List.setIfInBounds_toArray, List.set_cons_zero, List.set_cons_succ])
          refine Tw_end (by kernel_rfl) (fun hh => ?_)
          obtain ⟨F11, _⟩ := hh
          clear HALL hw3
          have F12 := Lib.hid F11
          clear F11
          obtain ⟨c0, c1, g0, g1⟩ := F12.out.top.two
          go_wp2_with fail
          go_roundw
          case rel => exact ⟨k + 1, by omega, by go_num, by
            have h := F12.out.put2 (.int .i64 ((tsum h 1 n k).add (turned (h k) (1 * (n : Int) * (k : Int)))).a) (.int .i64 ((tsum h 1 n k).add (turned (h k) (1 * (n : Int) * (k : Int)))).b) (by omega) (by simp; omega)
            rw [E3.out]
            exact h⟩
          case measure => simp [intOf]; omega
        · obtain rfl : k = 6 := by omega
          have hbd := (tsum_bd (way := 1) HIN.out n 6 (by omega)).bd
          have HBD := Lib.hid (show (backV h n).Bd 12000000 from hbd)
          obtain ⟨r, hr⟩ : ∃ r, (backV h n).a.tmod 6 = r := ⟨_, rfl⟩
          obtain ⟨qq, hqq⟩ : ∃ r, (backV h n).a.tdiv 6 = r := ⟨_, rfl⟩
          have HQQ : Hid (quo h n = qq) := Lib.hid hqq
          have HFR : Hid (frm (backV h n) = (decide (r = 0) && decide ((backV h n).b = 0))) := Lib.hid (by unfold frm; rw [hr])
          have hqi := tdiv_in ⟨HBD.out.a0, HBD.out.a1⟩
          rw [hqq] at hqi
          clear hbd
          have FB : Hid (Fr w wr [(w1.heap.size, 24, #[.int .i64 (backV h n).a, .int .i64 (backV h n).b]), (w.heap.size + 1 + 1, 22, #[.int .i64 (quoK h n 0), .int .i64 (quoK h n 1), .int .i64 (quoK h n 2), .int .i64 (quoK h n 3), .int .i64 (quoK h n 4), .int .i64 (quoK h n 5)]), (w.heap.size + 1, 22, #[.int .i64 0, .int .i64 0, .int .i64 0, .int .i64 0, .int .i64 0, .int .i64 0]), (w.heap.size, 25, #[.int .i64 (h 0).a, .int .i64 (h 0).b, .int .i64 (h 1).a, .int .i64 (h 1).b, .int .i64 (h 2).a, .int .i64 (h 2).b, .int .i64 (h 3).a, .int .i64 (h 3).b, .int .i64 (h 4).a, .int .i64 (h 4).b, .int .i64 (h 5).a, .int .i64 (h 5).b])]) := Lib.hid FK.out
          clear FK
          obtain ⟨vb, hvb⟩ : ∃ r, (backV h n).b = r := ⟨_, rfl⟩
          obtain ⟨va, hva⟩ : ∃ r, (backV h n).a = r := ⟨_, rfl⟩
          rw [hva] at hr hqq FB
          rw [hvb] at HFR FB
          have hvin : -12000000 ≤ va ∧ va ≤ 12000000 := by rw [← hva]; exact ⟨HBD.out.a0, HBD.out.a1⟩
          clear hva hvb HBD
          obtain ⟨u0, u1, _, _⟩ := FB.out.top.two
          have F4 := Lib.hid FB.out.tail
          by_cases hb0 : vb = 0
          · have e2 : (vb != 0) = false := by simp [hb0]
            by_cases hr0 : r = 0
            · have HFT := Lib.hid (show frm (backV h n) = true by rw [HFR.out]; simp [hr0, hb0])
              have e1 : (r != 0) = false := by simp [hr0]
              have xk := (F4.out.top.cell n).trans (ic_get _ hnt)
              have gk := F4.out.top.frozen n
              clear hr0 hb0
              go_wp2_with fail
              clear hr hqq e1 e2
              go_roundw
              case rel => exact ⟨n + 1, by omega, by go_num, fun j hj => by
                by_cases e : j = n
                · rw [e]; exact HFT.out
                · exact HQ.out j (by omega), by
                have h1 := F4.out.putI hnt qq (by omega) (by first | (simp; done) | (simp; omega))
                rw [← HQQ.out, quo_next] at h1
                rw [← HQQ.out]
                exact h1⟩
              case measure => simp [intOf]; omega
            · have HA : Hid (smpA h = (fun _ => 0, 3)) := Lib.hid (by unfold smpA; rw [if_neg (by rw [HOK.out]; simp), if_pos (allF_bad hnt (by rw [HFR.out]; simp [hr0]))])
              have e1 : (r != 0) = true := by simp [hr0]
              clear hr0 hb0
              have r0 := F4.out.at1.cell 0
              have r1 := F4.out.at1.cell 1
              have r2 := F4.out.at1.cell 2
              have r3 := F4.out.at1.cell 3
              have r4 := F4.out.at1.cell 4
              have r5 := F4.out.at1.cell 5
              have g0 := F4.out.at1.frozen 0
              have g1 := F4.out.at1.frozen 1
              have g2 := F4.out.at1.frozen 2
              have g3 := F4.out.at1.frozen 3
              have g4 := F4.out.at1.frozen 4
              have g5 := F4.out.at1.frozen 5
              go_wp2_with fail
              refine wpQ_abs (Q := bodyPost _ _ _) ?_
              intro W' hW'
              have B2 : Bk W' (w.heap.size + 1) 22 #[.int .i64 0, .int .i64 0, .int .i64 0, .int .i64 0, .int .i64 0, .int .i64 0] := by rw [← hW']; exact Bk.put6 F4.out.at1
              have BL := Lib.hid (show Below w.heap.size w W' by rw [← hW']; exact ((((((F4.out.bl.setCell (by simp) _).setCell (by simp) _).setCell (by simp) _).setCell (by simp) _).setCell (by simp) _).setCell (by simp) _))
              clear hW'
              have q0 := B2.cell 0
              have q1 := B2.cell 1
              have q2 := B2.cell 2
              have q3 := B2.cell 3
              have q4 := B2.cell 4
              have q5 := B2.cell 5
              refine bodyPost_ret (v := .tuple #[.agg #[.int .i64 0, .int .i64 0, .int .i64 0, .int .i64 0, .int .i64 0, .int .i64 0], .int .i64 3]) (by simp [results, Tryd.results17, go_sem, q0, q1, q2, q3, q4, q5]) rfl ⟨?_, BL.out⟩
              rw [HA.out]
          · have HA : Hid (smpA h = (fun _ => 0, 3)) := Lib.hid (by unfold smpA; rw [if_neg (by rw [HOK.out]; simp), if_pos (allF_bad hnt (by rw [HFR.out]; simp [hb0]))])
            have e2 : (vb != 0) = true := by simp [hb0]
            clear hb0
            have r0 := F4.out.at1.cell 0
            have r1 := F4.out.at1.cell 1
            have r2 := F4.out.at1.cell 2
            have r3 := F4.out.at1.cell 3
            have r4 := F4.out.at1.cell 4
            have r5 := F4.out.at1.cell 5
            have g0 := F4.out.at1.frozen 0
            have g1 := F4.out.at1.frozen 1
            have g2 := F4.out.at1.frozen 2
            have g3 := F4.out.at1.frozen 3
            have g4 := F4.out.at1.frozen 4
            have g5 := F4.out.at1.frozen 5
            go_wp2_with fail
            refine wpQ_abs (Q := bodyPost _ _ _) ?_
            intro W' hW'
            have B2 : Bk W' (w.heap.size + 1) 22 #[.int .i64 0, .int .i64 0, .int .i64 0, .int .i64 0, .int .i64 0, .int .i64 0] := by rw [← hW']; exact Bk.put6 F4.out.at1
            have BL := Lib.hid (show Below w.heap.size w W' by rw [← hW']; exact ((((((F4.out.bl.setCell (by simp) _).setCell (by simp) _).setCell (by simp) _).setCell (by simp) _).setCell (by simp) _).setCell (by simp) _))
            clear hW'
            have q0 := B2.cell 0
            have q1 := B2.cell 1
            have q2 := B2.cell 2
            have q3 := B2.cell 3
            have q4 := B2.cell 4
            have q5 := B2.cell 5
            refine bodyPost_ret (v := .tuple #[.agg #[.int .i64 0, .int .i64 0, .int .i64 0, .int .i64 0, .int .i64 0, .int .i64 0], .int .i64 3]) (by simp [results, Tryd.results17, go_sem, q0, q1, q2, q3, q4, q5]) rfl ⟨?_, BL.out⟩
            rw [HA.out]
    · obtain rfl : n = 6 := by omega
      have HAF := Lib.hid (allF_all HQ.out)
      have hq := FN.out
      rw [quo_all] at hq
      have F3 := Lib.hid hq
      clear hq FN
      have v0 := F3.out.top.cell 0
      have v1 := F3.out.top.cell 1
      have v2 := F3.out.top.cell 2
      have v3 := F3.out.top.cell 3
      have v4 := F3.out.top.cell 4
      have v5 := F3.out.top.cell 5
      cases hb : ok6 (quo h) with
      | false =>
        have HA : Hid (smpA h = (fun _ => 0, 2)) := Lib.hid (by unfold smpA; rw [if_neg (by rw [HOK.out]; simp), if_neg (by rw [HAF.out]; simp), if_pos hb])
        have HS := Lib.hid (fun w => by have := SamplesErr_any (quo h) w; rw [if_neg (by rw [hb]; simp)] at this; exact this)
        clear hb
        go_wp2_with fail
        refine (HS.out _).mono ?_
        rintro e w5 ⟨rfl, hb5⟩
        have F5 := Lib.hid (F3.out.call hb5)
        clear hb5 F3 v0 v1 v2 v3 v4 v5
        have r0 := F5.out.at1.cell 0
        have r1 := F5.out.at1.cell 1
        have r2 := F5.out.at1.cell 2
        have r3 := F5.out.at1.cell 3
        have r4 := F5.out.at1.cell 4
        have r5 := F5.out.at1.cell 5
        have g0 := F5.out.at1.frozen 0
        have g1 := F5.out.at1.frozen 1
        have g2 := F5.out.at1.frozen 2
        have g3 := F5.out.at1.frozen 3
        have g4 := F5.out.at1.frozen 4
        have g5 := F5.out.at1.frozen 5
        go_wp2_with fail
        refine wpQ_abs (Q := bodyPost _ _ _) ?_
        intro W' hW'
        have B2 : Bk W' (w.heap.size + 1) 22 #[.int .i64 0, .int .i64 0, .int .i64 0, .int .i64 0, .int .i64 0, .int .i64 0] := by rw [← hW']; exact Bk.put6 F5.out.at1
        have BL := Lib.hid (show Below w.heap.size w W' by rw [← hW']; exact ((((((F5.out.bl.setCell (by simp) _).setCell (by simp) _).setCell (by simp) _).setCell (by simp) _).setCell (by simp) _).setCell (by simp) _))
        clear hW'
        have q0 := B2.cell 0
        have q1 := B2.cell 1
        have q2 := B2.cell 2
        have q3 := B2.cell 3
        have q4 := B2.cell 4
        have q5 := B2.cell 5
        refine bodyPost_ret (v := .tuple #[.agg #[.int .i64 0, .int .i64 0, .int .i64 0, .int .i64 0, .int .i64 0, .int .i64 0], .int .i64 2]) (by simp [results, Tryd.results17, go_sem, q0, q1, q2, q3, q4, q5]) rfl ⟨?_, BL.out⟩
        rw [HA.out]
      | true =>
        have HA : Hid (smpA h = (quo h, 0)) := Lib.hid (by unfold smpA; rw [if_neg (by rw [HOK.out]; simp), if_neg (by rw [HAF.out]; simp), if_neg (by rw [hb]; simp)])
        have HS := Lib.hid (fun w => by have := SamplesErr_any (quo h) w; rw [if_pos hb] at this; exact this)
        clear hb
        go_wp2_with fail
        refine (HS.out _).mono ?_
        rintro e w5 ⟨rfl, hb5⟩
        have F5 := Lib.hid (F3.out.call hb5)
        clear hb5 F3 v0 v1 v2 v3 v4 v5
        have v0 := F5.out.top.cell 0
        have v1 := F5.out.top.cell 1
        have v2 := F5.out.top.cell 2
        have v3 := F5.out.top.cell 3
        have v4 := F5.out.top.cell 4
        have v5 := F5.out.top.cell 5
        have r0 := F5.out.at1.cell 0
        have r1 := F5.out.at1.cell 1
        have r2 := F5.out.at1.cell 2
        have r3 := F5.out.at1.cell 3
        have r4 := F5.out.at1.cell 4
        have r5 := F5.out.at1.cell 5
        have g0 := F5.out.at1.frozen 0
        have g1 := F5.out.at1.frozen 1
        have g2 := F5.out.at1.frozen 2
        have g3 := F5.out.at1.frozen 3
        have g4 := F5.out.at1.frozen 4
        have g5 := F5.out.at1.frozen 5
        go_wp2_with fail
        refine wpQ_abs (Q := bodyPost _ _ _) ?_
        intro W' hW'
        have B2 : Bk W' (w.heap.size + 1) 22 #[.int .i64 (quo h 0), .int .i64 (quo h 1), .int .i64 (quo h 2), .int .i64 (quo h 3), .int .i64 (quo h 4), .int .i64 (quo h 5)] := by rw [← hW']; exact Bk.put6 F5.out.at1
        have BL := Lib.hid (show Below w.heap.size w W' by rw [← hW']; exact ((((((F5.out.bl.setCell (by simp) _).setCell (by simp) _).setCell (by simp) _).setCell (by simp) _).setCell (by simp) _).setCell (by simp) _))
        clear hW'
        have q0 := B2.cell 0
        have q1 := B2.cell 1
        have q2 := B2.cell 2
        have q3 := B2.cell 3
        have q4 := B2.cell 4
        have q5 := B2.cell 5
        refine bodyPost_ret (v := .tuple #[.agg #[.int .i64 (quo h 0), .int .i64 (quo h 1), .int .i64 (quo h 2), .int .i64 (quo h 3), .int .i64 (quo h 4), .int .i64 (quo h 5)], .int .i64 0]) (by simp [results, Tryd.results17, go_sem, q0, q1, q2, q3, q4, q5]) rfl ⟨?_, BL.out⟩
        rw [HA.out]
end Go.Proofs.YtohldmmfnjfgmaaDoor
