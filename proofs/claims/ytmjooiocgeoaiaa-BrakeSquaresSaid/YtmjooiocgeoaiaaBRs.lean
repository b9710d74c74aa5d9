
/-
  The walks of CheckSquares and TimeOf of the reference.
-/
import Derived.Test.YtmjooiocgeoaiaaBRo
import Derived.Test.YtmjooiocgeoaiaaBTm
import Derived.Test.YtmjooiocgeoaiaaBSs
import Derived.Test.YtmjooiocgeoaiaaBRff
namespace Go.Proofs.Ytmjooiocgeoaiaa
open Go.RowKit

set_option maxHeartbeats 3200000 in
set_option maxRecDepth 100000 in
theorem refTimeOf_ok (s : ByteArray) (ps : List Bp) (a : Addr) (c : Nat) (hok : OkT s ps) (l : List Int) (B : Option Addr) (d : Nat) (hln : l.length = ps.length + 1) (hq : ∀ k, 0 ≤ sqAt l k ∧ sqAt l k ≤ 20000000000) (hmiss : ∀ j, j < ps.length → zeroS l j = false) (w : World) (hA : Lies w w.heap.size (some a) (ps.flatMap pc)) (hL : Lies w w.heap.size B (ic l)) :
    Calls Try.prog 24 #[.agg #[.string s, .slice (some a) ps.length c], .slice B l.length d] w fun e w' => e = .returned (.tuple #[.agg #[.int .i64 (tloV ps l ps.length), .int .i64 (thiV ps l ps.length)], .int .i64 0]) ∧ Below w.heap.size w w' := by
  have FT := Lib.hid (Fr.b3 w 24 #[.string s, .slice (some a) ps.length c] 49 #[.int .i64 0, .int .i64 0] 49 #[.int .i64 0, .int .i64 0])
  have HA := Lib.hid hA
  have HOK := Lib.hid hok
  have HQ := Lib.hid hq
  have HMISS := Lib.hid hmiss
  have h12 := hok.n12
  have hl12 : (ps.length : Int) ≤ 12 := by omega
  have HLE : Hid (∀ k, k ≤ ps.length → ∀ W, Fr w W [] → ∃ a2, B = some a2 ∧ a2.block < w.heap.size ∧ W.cell? (a2.add k) = some (.int .i64 (sqAt l k))) := Lib.hid (fun k hk W hW => by
    obtain ⟨a2, e, h1, _⟩ := hL.num (sqAt_get (k := k) (by omega))
    obtain ⟨a3, e3, _, h3⟩ := (Fr.lies hL hW).num (sqAt_get (k := k) (by omega))
    rw [e] at e3
    injection e3 with e3
    subst e3
    exact ⟨a2, e, h1, h3⟩)
  obtain ⟨a2, ea2, _, _⟩ := HLE.out 0 (Nat.zero_le _) w (Fr.nil w)
  subst ea2
  have HLC : Hid (∀ k, k ≤ ps.length → ∀ W, Fr w W [] → W.cell? (a2.add k) = some (.int .i64 (sqAt l k))) := Lib.hid (fun k hk W hW => by
    obtain ⟨a3, e3, _, h3⟩ := HLE.out k hk W hW
    injection e3 with e3
    subst e3
    exact h3)
  rw [hln]
  obtain ⟨N, hN⟩ : ∃ N, N = ps.length + 1 := ⟨_, rfl⟩
  rw [← hN]
  have HNN := Lib.hid hN
  have HGT : Hid (w.heap.size ≤ w.heap.size + 1 + 1) := Lib.hid (by omega)
  have HNE : Hid (∀ b' ∈ ([(w.heap.size + 1, 49, #[.int .i64 0, .int .i64 0]), (w.heap.size, 24, #[.string s, .slice (some a) ps.length c])] : List (Nat × TypeId × Array Value)), b'.1 ≠ w.heap.size + 1 + 1) := Lib.hid (fun b' hb' => by
    rcases List.mem_cons.1 hb' with rfl | hb'
    · show w.heap.size + 1 ≠ _; omega
    · rcases List.mem_cons.1 hb' with rfl | hb'
      · show w.heap.size ≠ _; omega
      · cases hb')
  clear hN hA hL hq hok hln hmiss HLE
  go_enter Try.func24, Try.ntmps24
  go_wp2_with fail
  go_loopw [7] (fun i wr => ∃ k : Nat, k ≤ ps.length ∧ i = .int .i64 k ∧ Fr w wr ((w.heap.size + 1 + 1, 49, #[.int .i64 (tloV ps l k), .int .i64 (thiV ps l k)]) :: [(w.heap.size + 1, 49, #[.int .i64 0, .int .i64 0]), (w.heap.size, 24, #[.string s, .slice (some a) ps.length c])])) (fun i _ => ps.length - (intOf i).toNat)
  case atStart => exact ⟨0, Nat.zero_le _, rfl, FT.out⟩
  case round =>
    obtain ⟨k, hk, rfl, hf⟩ := hrel
    have FK := Lib.hid hf
    have t0 := (hf.get 2 rfl).cell 0
    have t1 := (hf.get 2 rfl).cell 1
    have t2 := (hf.get 2 rfl).lt
    clear hf FT
    by_cases hk2 : k < ps.length
    · skip
      have hkn : k < ps.length := by omega
      have hki : (k : Int) < (ps.length : Int) := by omega
      have hkN : (k : Int) < (N : Int) := by have := HNN.out; omega
      obtain ⟨k1, hk1⟩ : ∃ k1 : Nat, k1 = k + 1 := ⟨_, rfl⟩
      have HK1 := Lib.hid hk1
      have hwk := (IntWalk.i64_in ((k : Int) + 1) (by omega)).trans (show (k : Int) + 1 = (k1 : Int) by omega)
      have hk1N : (k1 : Int) < (N : Int) := by have := HNN.out; omega
      have hk1n : k1 ≤ ps.length := by omega
      obtain ⟨a3, ea, _, c0, c1, c2, c3⟩ := (Fr.lies HA.out FK.out).piece (gp_at (i := k) hkn)
      simp only [Option.some.injEq] at ea
      subst ea
      have hpo := okP_iff.1 (gp_ok HOK.out.each k)
      obtain ⟨⟨pl, pg, pm, pv0⟩, hP⟩ : ∃ P, gp ps k = P := ⟨_, rfl⟩
      have HP := Lib.hid hP
      rw [hP] at c0 c1 c2 c3 hpo
      simp only at c0 c1 c2 c3 hpo
      obtain ⟨⟨pl0, pl1⟩, _, _⟩ := hpo
      clear hP hk1
      obtain ⟨x, hx⟩ : ∃ x, sqAt l k = x := ⟨_, rfl⟩
      obtain ⟨y, hy⟩ : ∃ y, sqAt l k1 = y := ⟨_, rfl⟩
      have HXX := Lib.hid hx
      have HYY := Lib.hid hy
      have cx := HLC.out k (by omega) wr FK.out.tail.tail.tail
      have cy := HLC.out k1 hk1n wr FK.out.tail.tail.tail
      rw [hx] at cx
      rw [hy] at cy
      clear hx hy
      have HMK : Hid (zeroS l k = false) := Lib.hid (HMISS.out k (by omega))
      have HNZ : Hid (¬ (x = 0 ∧ y = 0)) := Lib.hid (fun h => by have := zero_iff.2 (show sqAt l k = 0 ∧ sqAt l (k + 1) = 0 by rw [HXX.out, ← HK1.out, HYY.out]; exact h); rw [HMK.out] at this; cases this)
      have hw3 := IntWalk.i64_in (2000 * pl) (by omega)
      go_upto_region 5 with fail
      go_cut [28] from 16 to 28 (fun r W => r = .bool false ∧ wr = W)
      case first =>
        by_cases e1 : x = 0
        · have e2 : ¬ y = 0 := fun e => HNZ.out ⟨e1, e⟩
          have e3 : (y == 0) = false := by simp [e2]
          have e4 : (x == 0) = true := by simp [e1]
          go_wp2_with fail
          go_meet
          exact ⟨rfl, rfl⟩
        · have e3 : (x == 0) = false := by simp [e1]
          go_wp2_with fail
          go_meet
          exact ⟨rfl, rfl⟩
      case rest =>
      obtain ⟨rfl, rfl⟩ := hcut
      have HST := tim_step HOK.out.each HQ.out HMK.out
      have HTB := tim_bound HOK.out.each HQ.out k (fun j hj => HMISS.out j (by omega))
      rw [HXX.out, ← HK1.out, HYY.out] at HST
      have hqx := HQ.out k
      have hqy := HQ.out k1
      rw [HXX.out] at hqx
      rw [HYY.out] at hqy
      have HR1 := Lib.hid (fun W => RootUp_any x hqx W)
      have HR2 := Lib.hid (fun W => RootUp_any y hqy W)
      have HQ1 := Lib.hid (fun W => Root_any x hqx W)
      have HQ2 := Lib.hid (fun W => Root_any y hqy W)
      have HSL : Hid (tloV ps l k1 = tloV ps l k + (2000 * pl).tdiv ((rtU x : Int) + rtU y)) := Lib.hid (by rw [HK1.out, tloV, ← HK1.out, HXX.out, HYY.out, HP.out])
      have HSH : Hid (thiV ps l k1 = thiV ps l k + (2000 * pl + (rtL x + rtL y) - 1).tdiv (rtL x + rtL y)) := Lib.hid (by rw [HK1.out, thiV, ← HK1.out, HXX.out, HYY.out, HP.out])
      obtain ⟨L1, hL1⟩ : ∃ L1, rtL x = L1 := ⟨_, rfl⟩
      obtain ⟨U1, hU1⟩ : ∃ U1 : Int, (rtU x : Int) = U1 := ⟨_, rfl⟩
      obtain ⟨L2, hL2⟩ : ∃ L2, rtL y = L2 := ⟨_, rfl⟩
      obtain ⟨U2, hU2⟩ : ∃ U2 : Int, (rtU y : Int) = U2 := ⟨_, rfl⟩
      rw [hU1] at HR1
      rw [hU2] at HR2
      rw [hL1] at HQ1
      rw [hL2] at HQ2
      rw [hU1, hU2] at HSL
      rw [hL1, hL2] at HSH
      rw [hL1, hL2, hU1, hU2] at HST
      obtain ⟨lo, hlo⟩ : ∃ lo, tloV ps l k = lo := ⟨_, rfl⟩
      obtain ⟨hi, hhi⟩ : ∃ hi, thiV ps l k = hi := ⟨_, rfl⟩
      rw [hlo] at HSL
      rw [hhi] at HSH
      rw [hlo, hhi] at HTB FK
      have hd1 := div_le (a := 2000 * pl) (b := U1 + U2) (by omega) (by omega)
      have hd2 := div_le (a := 2000 * pl + (L1 + L2) - 1) (b := L1 + L2) (by omega) (by omega)
      have HFL : Hid (∀ w, Calls Try.prog 58 #[.int .i64 (2000 * pl), .int .i64 (U1 + U2)] w fun e w' => e = .returned (.int .i64 ((2000 * pl).tdiv (U1 + U2))) ∧ w = w') := Lib.hid (fun w => by rw [Int.tdiv_eq_ediv_of_nonneg (by omega)]; exact Floor_any (2000 * pl) (U1 + U2) (by omega) (by omega) (by omega) (by omega) w)
      have HCL : Hid (∀ w, Calls Try.prog 60 #[.int .i64 (2000 * pl), .int .i64 (L1 + L2)] w fun e w' => e = .returned (.int .i64 ((2000 * pl + (L1 + L2) - 1).tdiv (L1 + L2))) ∧ w = w') := Lib.hid (fun w => by rw [← ceil_tdiv (by omega) (by omega)]; exact Ceil_any (2000 * pl) (L1 + L2) (by omega) (by omega) (by omega) (by omega) w)
      obtain ⟨d1, hdd1⟩ : ∃ d1, (2000 * pl).tdiv (U1 + U2) = d1 := ⟨_, rfl⟩
      obtain ⟨d2, hdd2⟩ : ∃ d2, (2000 * pl + (L1 + L2) - 1).tdiv (L1 + L2) = d2 := ⟨_, rfl⟩
      rw [hdd1] at HFL HSL hd1
      rw [hdd2] at HCL HSH hd2
      have hw1 := IntWalk.i64_in (U1 + U2) (by omega)
      have hw2 := IntWalk.i64_in (L1 + L2) (by omega)
      have hw4 := IntWalk.i64_in (lo + d1) (by omega)
      have hw5 := IntWalk.i64_in (hi + d2) (by omega)
      clear HST HTB hqx hqy hL1 hU1 hL2 hU2 hlo hhi hd1 hd2 hdd1 hdd2
      go_upto_region 8 with fail
      go_cut [] from 37 to 54 (fun W => Fr w W ((w.heap.size + 1 + 1, 49, #[.int .i64 (lo + d1), .int .i64 hi]) :: [(w.heap.size + 1, 49, #[.int .i64 0, .int .i64 0]), (w.heap.size, 24, #[.string s, .slice (some a) ps.length c])]))
      case first =>
        have HALL : Hid (∀ W, Fr w W ((w.heap.size + 1 + 1, 49, #[.int .i64 lo, .int .i64 hi]) :: [(w.heap.size + 1, 49, #[.int .i64 0, .int .i64 0]), (w.heap.size, 24, #[.string s, .slice (some a) ps.length c])]) → Fr w W ((w.heap.size + 1 + 1, 49, #[.int .i64 lo, .int .i64 hi]) :: [(w.heap.size + 1, 49, #[.int .i64 0, .int .i64 0]), (w.heap.size, 24, #[.string s, .slice (some a) ps.length c])]) ∧ W.cell? ⟨w.heap.size + 1 + 1, 0, none⟩ = some (.int .i64 lo) ∧ W.cell? (a2.add k) = some (.int .i64 x) ∧ W.cell? (a2.add k1) = some (.int .i64 y)) := Lib.hid (fun W hW => ⟨hW, hW.top.cell 0, by rw [← HXX.out]; exact HLC.out k (by omega) _ hW.tail.tail.tail, by rw [← HYY.out]; exact HLC.out k1 hk1n _ hW.tail.tail.tail⟩)
        have F10 : Fr w _ ((w.heap.size + 1 + 1, 49, #[.int .i64 lo, .int .i64 hi]) :: [(w.heap.size + 1, 49, #[.int .i64 0, .int .i64 0]), (w.heap.size, 24, #[.string s, .slice (some a) ps.length c])]) := FK.out
        refine Tw_start 18 (fun W => Fr w W ((w.heap.size + 1 + 1, 49, #[.int .i64 lo, .int .i64 hi]) :: [(w.heap.size + 1, 49, #[.int .i64 0, .int .i64 0]), (w.heap.size, 24, #[.string s, .slice (some a) ps.length c])]) ∧ W.cell? ⟨w.heap.size + 1 + 1, 0, none⟩ = some (.int .i64 lo) ∧ W.cell? (a2.add k) = some (.int .i64 x) ∧ W.cell? (a2.add k1) = some (.int .i64 y)) (by kernel_rfl) (by kernel_rfl) rfl ?_ ?_
        · (try dsimp only)
          ((go_split_ands; refine HALL.out _ ?_; (first | assumption | (repeat (first | assumption | refine Fr.new ?_ _ | refine Fr.drew ?_ | (refine Fr.set ?_ (by first | exact Nat.le_refl _ | omega | (simp; done) | (simp; omega)) (by first | (simp; done) | (simp; omega)) _))); done)))
        refine Tw_abs ?_
        intro wD hD
        clear hD
        refine Tw_takeL (i := 0) (v := ?tv1) rfl (by kernel_rfl) (by decide) (by kernel_rfl) (by kernel_rfl) (fun _ _ _ h => h) (by rfl) ?ty1 ?tn1
        case ty1 => (intro w hSw; (try dsimp only at hSw); go_simp <;> with_reducible rfl)
        (try simp only [Act.put, List.setIfInBounds_toArray, List.set_cons_zero, List.set_cons_succ])
        refine Tw_takeL (i := 1) (v := ?tv2) rfl (by kernel_rfl) (by decide) (by kernel_rfl) (by kernel_rfl) (fun _ _ _ h => h) (by rfl) ?ty2 ?tn2
        case ty2 => (intro w hSw; (try dsimp only at hSw); go_simp <;> with_reducible rfl)
        (try simp only [Act.put, List.setIfInBounds_toArray, List.set_cons_zero, List.set_cons_succ])
        refine Tw_takeL (i := 2) (v := ?tv3) rfl (by kernel_rfl) (by decide) (by kernel_rfl) (by kernel_rfl) (fun _ _ _ h => h) (by rfl) ?ty3 ?tn3
        case ty3 => (intro w hSw; (try dsimp only at hSw); go_simp <;> with_reducible rfl)
        (try simp only [Act.put, List.setIfInBounds_toArray, List.set_cons_zero, List.set_cons_succ])
        refine Tw_takeL (i := 3) (v := ?tv4) rfl (by kernel_rfl) (by decide) (by kernel_rfl) (by kernel_rfl) (fun _ _ _ h => h) (by rfl) ?ty4 ?tn4
        case ty4 => (intro w hSw; (try dsimp only at hSw); go_simp <;> with_reducible rfl)
        (try simp only [Act.put, List.setIfInBounds_toArray, List.set_cons_zero, List.set_cons_succ])
        refine Tw_takeL (i := 4) (v := ?tv5) rfl (by kernel_rfl) (by decide) (by kernel_rfl) (by kernel_rfl) (fun _ _ _ h => h) (by rfl) ?ty5 ?tn5
        case ty5 => (intro w hSw; (try dsimp only at hSw); go_simp <;> with_reducible rfl)
        (try simp only [Act.put, List.setIfInBounds_toArray, List.set_cons_zero, List.set_cons_succ])
        refine Tw_takeL (i := 5) (v := ?tv6) rfl (by kernel_rfl) (by decide) (by kernel_rfl) (by kernel_rfl) (fun _ _ _ h => h) (by rfl) ?ty6 ?tn6
        case ty6 => (intro w hSw; (try dsimp only at hSw); go_simp <;> with_reducible rfl)
        (try simp only [Act.put, List.setIfInBounds_toArray, List.set_cons_zero, List.set_cons_succ])
        refine Tw_takeL (i := 6) (v := ?tv7) rfl (by kernel_rfl) (by decide) (by kernel_rfl) (by kernel_rfl) (fun _ _ _ h => h) (by rfl) ?ty7 ?tn7
        case ty7 => (intro w hSw; (try dsimp only at hSw); go_simp <;> with_reducible rfl)
        (try simp only [Act.put, List.setIfInBounds_toArray, List.set_cons_zero, List.set_cons_succ])
        refine Tw_takeL (i := 8) (v := ?tv8) rfl (by kernel_rfl) (by decide) (by kernel_rfl) (by kernel_rfl) (fun _ _ _ h => h) (by rfl) ?ty8 ?tn8
        case ty8 => (intro w hSw; (try dsimp only at hSw); go_simp <;> with_reducible rfl)
        (try simp only [Act.put, List.setIfInBounds_toArray, List.set_cons_zero, List.set_cons_succ])
        refine Tw_takeL (i := 9) (v := ?tv9) rfl (by kernel_rfl) (by decide) (by kernel_rfl) (by kernel_rfl) (fun _ _ _ h => h) (by rfl) ?ty9 ?tn9
        case ty9 => (intro w hSw; (try dsimp only at hSw); go_simp <;> with_reducible rfl)
        (try simp only [Act.put, List.setIfInBounds_toArray, List.set_cons_zero, List.set_cons_succ])
        refine Tw_takeL (i := 10) (v := ?tv10) rfl (by kernel_rfl) (by decide) (by kernel_rfl) (by kernel_rfl) (fun _ _ _ h => h) (by rfl) ?ty10 ?tn10
        case ty10 => (intro w hSw; (try dsimp only at hSw); go_simp <;> with_reducible rfl)
        (try simp only [Act.put, List.setIfInBounds_toArray, List.set_cons_zero, List.set_cons_succ])
        refine Tw_takeL (i := 11) (v := ?tv11) rfl (by kernel_rfl) (by decide) (by kernel_rfl) (by kernel_rfl) (fun _ _ _ h => h) (by rfl) ?ty11 ?tn11
        case ty11 => (intro w hSw; (try dsimp only at hSw); go_simp <;> with_reducible rfl)
        (try simp only [Act.put, List.setIfInBounds_toArray, List.set_cons_zero, List.set_cons_succ])
        refine Tw_takeL (i := 12) (v := ?tv12) rfl (by kernel_rfl) (by decide) (by kernel_rfl) (by kernel_rfl) (fun _ _ _ h => h) (by rfl) ?ty12 ?tn12
        case ty12 => (intro w hSw; (try dsimp only at hSw); go_simp <;> with_reducible rfl)
        (try simp only [Act.put, List.setIfInBounds_toArray, List.set_cons_zero, List.set_cons_succ])
        refine Tw_all (rs := [7]) (by kernel_rfl) (by simp) (by decide) (fun hHeld => ?_)
        refine AllT.consL rfl (fun K hK => ?_) AllT.nil
        go_simp
        (go_at_call 59; go_split_ands; (with_reducible refine (HR1.out _).mono ?_); rintro e w7 ⟨rfl, rfl⟩)
        refine hK.out _ _ ?_ ?_
        · (try dsimp only)
          ((go_split_ands; refine HALL.out _ ?_; (first | assumption | (repeat (first | assumption | refine Fr.new ?_ _ | refine Fr.drew ?_ | (refine Fr.set ?_ (by first | exact Nat.le_refl _ | omega | (simp; done) | (simp; omega)) (by first | (simp; done) | (simp; omega)) _))); done)))
        clear hK K
        (try simp only [Act.put, List.setIfInBounds_toArray, List.set_cons_zero, List.set_cons_succ])
        refine Tw_all (rs := [13]) (by kernel_rfl) (by simp) (by decide) (fun hHeld => ?_)
        refine AllT.consL rfl (fun K hK => ?_) AllT.nil
        go_simp
        (go_at_call 59; go_split_ands; (with_reducible refine (HR2.out _).mono ?_); rintro e w7 ⟨rfl, rfl⟩)
        refine hK.out _ _ ?_ ?_
        · (try dsimp only)
          ((go_split_ands; refine HALL.out _ ?_; (first | assumption | (repeat (first | assumption | refine Fr.new ?_ _ | refine Fr.drew ?_ | (refine Fr.set ?_ (by first | exact Nat.le_refl _ | omega | (simp; done) | (simp; omega)) (by first | (simp; done) | (simp; omega)) _))); done)))
        clear hK K
        (try simp only [Act.put, List.setIfInBounds_toArray, List.set_cons_zero, List.set_cons_succ])
        refine Tw_takeL (i := 14) (v := ?tv13) rfl (by kernel_rfl) (by decide) (by kernel_rfl) (by kernel_rfl) (fun _ _ _ h => h) (by rfl) ?ty13 ?tn13
        case ty13 => (intro w hSw; (try dsimp only at hSw); go_simp <;> with_reducible rfl)
        (try simp only [Act.put, List.setIfInBounds_toArray, List.set_cons_zero, List.set_cons_succ])
        refine Tw_all (rs := [15]) (by kernel_rfl) (by simp) (by decide) (fun hHeld => ?_)
        refine AllT.consL rfl (fun K hK => ?_) AllT.nil
        go_simp
        (go_at_call 58; go_split_ands; (with_reducible refine (HFL.out _).mono ?_); rintro e w7 ⟨rfl, rfl⟩)
        refine hK.out _ _ ?_ ?_
        · (try dsimp only)
          ((go_split_ands; refine HALL.out _ ?_; (first | assumption | (repeat (first | assumption | refine Fr.new ?_ _ | refine Fr.drew ?_ | (refine Fr.set ?_ (by first | exact Nat.le_refl _ | omega | (simp; done) | (simp; omega)) (by first | (simp; done) | (simp; omega)) _))); done)))
        clear hK K
        (try simp only [Act.put, List.setIfInBounds_toArray, List.set_cons_zero, List.set_cons_succ])
        refine Tw_takeL (i := 16) (v := ?tv14) rfl (by kernel_rfl) (by decide) (by kernel_rfl) (by kernel_rfl) (fun _ _ _ h => h) (by rfl) ?ty14 ?tn14
        case ty14 => (intro w hSw; (try dsimp only at hSw); go_simp <;> with_reducible rfl)
        (try simp only [Act.put, List.setIfInBounds_toArray, List.set_cons_zero, List.set_cons_succ])
        refine Tw_takeL (i := 17) (v := ?tv15) rfl (by kernel_rfl) (by decide) (by kernel_rfl) (by kernel_rfl) (fun _ _ _ h => h) (by rfl) ?ty15 ?tn15
        case ty15 => (intro w hSw; (try dsimp only at hSw); go_simp <;> with_reducible rfl)
        (try simp only [Act.put, List.setIfInBounds_toArray, List.set_cons_zero, List.set_cons_succ])
        refine Tw_end (by kernel_rfl) (fun hh => ?_)
        obtain ⟨F11, _⟩ := hh
        clear HALL
        have n0 := F11.top.cell 0
        have g0 := F11.top.frozen 0
        have za := F11.top.lt
        go_wp2_with fail
        go_meet
        exact F11.put 0 _ HGT.out HNE.out
      case rest =>
      obtain ⟨wv2, rfl⟩ : ∃ W, W = wc := ⟨_, rfl⟩
      have F8 := Lib.hid hcut
      clear hcut FK
      go_upto_region 9 with fail
      have HALL : Hid (∀ W, Fr w W ((w.heap.size + 1 + 1, 49, #[.int .i64 (lo + d1), .int .i64 hi]) :: [(w.heap.size + 1, 49, #[.int .i64 0, .int .i64 0]), (w.heap.size, 24, #[.string s, .slice (some a) ps.length c])]) → Fr w W ((w.heap.size + 1 + 1, 49, #[.int .i64 (lo + d1), .int .i64 hi]) :: [(w.heap.size + 1, 49, #[.int .i64 0, .int .i64 0]), (w.heap.size, 24, #[.string s, .slice (some a) ps.length c])]) ∧ W.cell? ⟨w.heap.size + 1 + 1, 1, none⟩ = some (.int .i64 hi) ∧ W.cell? (a2.add k) = some (.int .i64 x) ∧ W.cell? (a2.add k1) = some (.int .i64 y)) := Lib.hid (fun W hW => ⟨hW, hW.top.cell 1, by rw [← HXX.out]; exact HLC.out k (by omega) _ hW.tail.tail.tail, by rw [← HYY.out]; exact HLC.out k1 hk1n _ hW.tail.tail.tail⟩)
      have F10 : Fr w _ ((w.heap.size + 1 + 1, 49, #[.int .i64 (lo + d1), .int .i64 hi]) :: [(w.heap.size + 1, 49, #[.int .i64 0, .int .i64 0]), (w.heap.size, 24, #[.string s, .slice (some a) ps.length c])]) := F8.out
      clear F8
      refine Tw_start 18 (fun W => Fr w W ((w.heap.size + 1 + 1, 49, #[.int .i64 (lo + d1), .int .i64 hi]) :: [(w.heap.size + 1, 49, #[.int .i64 0, .int .i64 0]), (w.heap.size, 24, #[.string s, .slice (some a) ps.length c])]) ∧ W.cell? ⟨w.heap.size + 1 + 1, 1, none⟩ = some (.int .i64 hi) ∧ W.cell? (a2.add k) = some (.int .i64 x) ∧ W.cell? (a2.add k1) = some (.int .i64 y)) (by kernel_rfl) (by kernel_rfl) rfl ?_ ?_
      · (try dsimp only)
        ((go_split_ands; refine HALL.out _ ?_; (first | assumption | (repeat (first | assumption | refine Fr.new ?_ _ | refine Fr.drew ?_ | (refine Fr.set ?_ (by first | exact Nat.le_refl _ | omega | (simp; done) | (simp; omega)) (by first | (simp; done) | (simp; omega)) _))); done)))
      refine Tw_abs ?_
      intro wD hD
      clear hD
      refine Tw_takeL (i := 0) (v := ?tv16) rfl (by kernel_rfl) (by decide) (by kernel_rfl) (by kernel_rfl) (fun _ _ _ h => h) (by rfl) ?ty16 ?tn16
      case ty16 => (intro w hSw; (try dsimp only at hSw); go_simp <;> with_reducible rfl)
      (try simp only [Act.put, List.setIfInBounds_toArray, List.set_cons_zero, List.set_cons_succ])
      refine Tw_takeL (i := 1) (v := ?tv17) rfl (by kernel_rfl) (by decide) (by kernel_rfl) (by kernel_rfl) (fun _ _ _ h => h) (by rfl) ?ty17 ?tn17
      case ty17 => (intro w hSw; (try dsimp only at hSw); go_simp <;> with_reducible rfl)
      (try simp only [Act.put, List.setIfInBounds_toArray, List.set_cons_zero, List.set_cons_succ])
      refine Tw_takeL (i := 2) (v := ?tv18) rfl (by kernel_rfl) (by decide) (by kernel_rfl) (by kernel_rfl) (fun _ _ _ h => h) (by rfl) ?ty18 ?tn18
      case ty18 => (intro w hSw; (try dsimp only at hSw); go_simp <;> with_reducible rfl)
      (try simp only [Act.put, List.setIfInBounds_toArray, List.set_cons_zero, List.set_cons_succ])
      refine Tw_takeL (i := 3) (v := ?tv19) rfl (by kernel_rfl) (by decide) (by kernel_rfl) (by kernel_rfl) (fun _ _ _ h => h) (by rfl) ?ty19 ?tn19
      case ty19 => (intro w hSw; (try dsimp only at hSw); go_simp <;> with_reducible rfl)
      (try simp only [Act.put, List.setIfInBounds_toArray, List.set_cons_zero, List.set_cons_succ])
      refine Tw_takeL (i := 4) (v := ?tv20) rfl (by kernel_rfl) (by decide) (by kernel_rfl) (by kernel_rfl) (fun _ _ _ h => h) (by rfl) ?ty20 ?tn20
      case ty20 => (intro w hSw; (try dsimp only at hSw); go_simp <;> with_reducible rfl)
      (try simp only [Act.put, List.setIfInBounds_toArray, List.set_cons_zero, List.set_cons_succ])
      refine Tw_takeL (i := 5) (v := ?tv21) rfl (by kernel_rfl) (by decide) (by kernel_rfl) (by kernel_rfl) (fun _ _ _ h => h) (by rfl) ?ty21 ?tn21
      case ty21 => (intro w hSw; (try dsimp only at hSw); go_simp <;> with_reducible rfl)
      (try simp only [Act.put, List.setIfInBounds_toArray, List.set_cons_zero, List.set_cons_succ])
      refine Tw_takeL (i := 6) (v := ?tv22) rfl (by kernel_rfl) (by decide) (by kernel_rfl) (by kernel_rfl) (fun _ _ _ h => h) (by rfl) ?ty22 ?tn22
      case ty22 => (intro w hSw; (try dsimp only at hSw); go_simp <;> with_reducible rfl)
      (try simp only [Act.put, List.setIfInBounds_toArray, List.set_cons_zero, List.set_cons_succ])
      refine Tw_takeL (i := 8) (v := ?tv23) rfl (by kernel_rfl) (by decide) (by kernel_rfl) (by kernel_rfl) (fun _ _ _ h => h) (by rfl) ?ty23 ?tn23
      case ty23 => (intro w hSw; (try dsimp only at hSw); go_simp <;> with_reducible rfl)
      (try simp only [Act.put, List.setIfInBounds_toArray, List.set_cons_zero, List.set_cons_succ])
      refine Tw_takeL (i := 9) (v := ?tv24) rfl (by kernel_rfl) (by decide) (by kernel_rfl) (by kernel_rfl) (fun _ _ _ h => h) (by rfl) ?ty24 ?tn24
      case ty24 => (intro w hSw; (try dsimp only at hSw); go_simp <;> with_reducible rfl)
      (try simp only [Act.put, List.setIfInBounds_toArray, List.set_cons_zero, List.set_cons_succ])
      refine Tw_takeL (i := 10) (v := ?tv25) rfl (by kernel_rfl) (by decide) (by kernel_rfl) (by kernel_rfl) (fun _ _ _ h => h) (by rfl) ?ty25 ?tn25
      case ty25 => (intro w hSw; (try dsimp only at hSw); go_simp <;> with_reducible rfl)
      (try simp only [Act.put, List.setIfInBounds_toArray, List.set_cons_zero, List.set_cons_succ])
      refine Tw_takeL (i := 11) (v := ?tv26) rfl (by kernel_rfl) (by decide) (by kernel_rfl) (by kernel_rfl) (fun _ _ _ h => h) (by rfl) ?ty26 ?tn26
      case ty26 => (intro w hSw; (try dsimp only at hSw); go_simp <;> with_reducible rfl)
      (try simp only [Act.put, List.setIfInBounds_toArray, List.set_cons_zero, List.set_cons_succ])
      refine Tw_takeL (i := 12) (v := ?tv27) rfl (by kernel_rfl) (by decide) (by kernel_rfl) (by kernel_rfl) (fun _ _ _ h => h) (by rfl) ?ty27 ?tn27
      case ty27 => (intro w hSw; (try dsimp only at hSw); go_simp <;> with_reducible rfl)
      (try simp only [Act.put, List.setIfInBounds_toArray, List.set_cons_zero, List.set_cons_succ])
      refine Tw_all (rs := [7]) (by kernel_rfl) (by simp) (by decide) (fun hHeld => ?_)
      refine AllT.consL rfl (fun K hK => ?_) AllT.nil
      go_simp
      (go_at_call 61; go_split_ands; (with_reducible refine (HQ1.out _).mono ?_); rintro e w7 ⟨rfl, rfl⟩)
      refine hK.out _ _ ?_ ?_
      · (try dsimp only)
        ((go_split_ands; refine HALL.out _ ?_; (first | assumption | (repeat (first | assumption | refine Fr.new ?_ _ | refine Fr.drew ?_ | (refine Fr.set ?_ (by first | exact Nat.le_refl _ | omega | (simp; done) | (simp; omega)) (by first | (simp; done) | (simp; omega)) _))); done)))
      clear hK K
      (try simp only [Act.put, List.setIfInBounds_toArray, List.set_cons_zero, List.set_cons_succ])
      refine Tw_all (rs := [13]) (by kernel_rfl) (by simp) (by decide) (fun hHeld => ?_)
      refine AllT.consL rfl (fun K hK => ?_) AllT.nil
      go_simp
      (go_at_call 61; go_split_ands; (with_reducible refine (HQ2.out _).mono ?_); rintro e w7 ⟨rfl, rfl⟩)
      refine hK.out _ _ ?_ ?_
      · (try dsimp only)
        ((go_split_ands; refine HALL.out _ ?_; (first | assumption | (repeat (first | assumption | refine Fr.new ?_ _ | refine Fr.drew ?_ | (refine Fr.set ?_ (by first | exact Nat.le_refl _ | omega | (simp; done) | (simp; omega)) (by first | (simp; done) | (simp; omega)) _))); done)))
      clear hK K
      (try simp only [Act.put, List.setIfInBounds_toArray, List.set_cons_zero, List.set_cons_succ])
      refine Tw_takeL (i := 14) (v := ?tv28) rfl (by kernel_rfl) (by decide) (by kernel_rfl) (by kernel_rfl) (fun _ _ _ h => h) (by rfl) ?ty28 ?tn28
      case ty28 => (intro w hSw; (try dsimp only at hSw); go_simp <;> with_reducible rfl)
      (try simp only [Act.put, List.setIfInBounds_toArray, List.set_cons_zero, List.set_cons_succ])
      refine Tw_all (rs := [15]) (by kernel_rfl) (by simp) (by decide) (fun hHeld => ?_)
      refine AllT.consL rfl (fun K hK => ?_) AllT.nil
      go_simp
      (go_at_call 60; go_split_ands; (with_reducible refine (HCL.out _).mono ?_); rintro e w7 ⟨rfl, rfl⟩)
      refine hK.out _ _ ?_ ?_
      · (try dsimp only)
        ((go_split_ands; refine HALL.out _ ?_; (first | assumption | (repeat (first | assumption | refine Fr.new ?_ _ | refine Fr.drew ?_ | (refine Fr.set ?_ (by first | exact Nat.le_refl _ | omega | (simp; done) | (simp; omega)) (by first | (simp; done) | (simp; omega)) _))); done)))
      clear hK K
      (try simp only [Act.put, List.setIfInBounds_toArray, List.set_cons_zero, List.set_cons_succ])
      refine Tw_takeL (i := 16) (v := ?tv29) rfl (by kernel_rfl) (by decide) (by kernel_rfl) (by kernel_rfl) (fun _ _ _ h => h) (by rfl) ?ty29 ?tn29
      case ty29 => (intro w hSw; (try dsimp only at hSw); go_simp <;> with_reducible rfl)
      (try simp only [Act.put, List.setIfInBounds_toArray, List.set_cons_zero, List.set_cons_succ])
      refine Tw_takeL (i := 17) (v := ?tv30) rfl (by kernel_rfl) (by decide) (by kernel_rfl) (by kernel_rfl) (fun _ _ _ h => h) (by rfl) ?ty30 ?tn30
      case ty30 => (intro w hSw; (try dsimp only at hSw); go_simp <;> with_reducible rfl)
      (try simp only [Act.put, List.setIfInBounds_toArray, List.set_cons_zero, List.set_cons_succ])
      refine Tw_end (by kernel_rfl) (fun hh => ?_)
      obtain ⟨F11, _⟩ := hh
      clear HALL
      have HF := Lib.hid F11
      have n0 := F11.top.cell 1
      have g0 := F11.top.frozen 1
      have za := F11.top.lt
      clear F11
      go_wp2_with fail
      go_roundw
      case rel => exact ⟨k1, by have := HK1.out; omega, rfl, by
        have h : Fr w _ ((w.heap.size + 1 + 1, 49, #[.int .i64 (lo + d1), .int .i64 (hi + d2)]) :: [(w.heap.size + 1, 49, #[.int .i64 0, .int .i64 0]), (w.heap.size, 24, #[.string s, .slice (some a) ps.length c])]) := HF.out.put 1 (.int .i64 (hi + d2)) HGT.out HNE.out
        rw [HSL.out, HSH.out]
        exact h⟩
      case measure => have := HK1.out; simp [intOf] <;> omega
    · obtain rfl : k = ps.length := by omega
      have d0 := (FK.out.get 1 rfl).cell 0
      have d1 := (FK.out.get 1 rfl).cell 1
      have f0 := (FK.out.get 1 rfl).frozen 0
      have f1 := (FK.out.get 1 rfl).frozen 1
      have zN := (FK.out.get 1 rfl).lt
      have r0 := FK.out.top.cell 0
      have r1 := FK.out.top.cell 1
      go_wp2_with fail
      exact bodyPost_ret (v := .tuple #[.agg #[.int .i64 (tloV ps l ps.length), .int .i64 (thiV ps l ps.length)], .int .i64 0]) (by simp [results, Try.results24, go_sem, d0, d1]) rfl ⟨rfl, ((FK.out.bl.setCell (p := ⟨w.heap.size + 1, 0, none⟩) (by show w.heap.size ≤ w.heap.size + 1; omega) _).setCell (p := ⟨w.heap.size + 1, 1, none⟩) (by show w.heap.size ≤ w.heap.size + 1; omega) _)⟩

set_option maxHeartbeats 3200000 in
set_option maxRecDepth 100000 in
theorem refTimeOf_zero (s : ByteArray) (ps : List Bp) (a : Addr) (c : Nat) (hok : OkT s ps) (l : List Int) (B : Option Addr) (d : Nat) (hln : l.length = ps.length + 1) (hq : ∀ k, 0 ≤ sqAt l k ∧ sqAt l k ≤ 20000000000) (n : Nat) (hn : n < ps.length) (hmiss : ∀ j, j < n → zeroS l j = false) (hhit : zeroS l n = true) (w : World) (hA : Lies w w.heap.size (some a) (ps.flatMap pc)) (hL : Lies w w.heap.size B (ic l)) :
    Calls Try.prog 24 #[.agg #[.string s, .slice (some a) ps.length c], .slice B l.length d] w fun e w' => e = .returned (.tuple #[.agg #[.int .i64 0, .int .i64 0], .int .i64 11]) ∧ Below w.heap.size w w' := by
  have FT := Lib.hid (Fr.b3 w 24 #[.string s, .slice (some a) ps.length c] 49 #[.int .i64 0, .int .i64 0] 49 #[.int .i64 0, .int .i64 0])
  have HA := Lib.hid hA
  have HOK := Lib.hid hok
  have HQ := Lib.hid hq
  have HMISS := Lib.hid hmiss
  have HHIT := Lib.hid hhit
  have h12 := hok.n12
  have hl12 : (ps.length : Int) ≤ 12 := by omega
  have HLE : Hid (∀ k, k ≤ ps.length → ∀ W, Fr w W [] → ∃ a2, B = some a2 ∧ a2.block < w.heap.size ∧ W.cell? (a2.add k) = some (.int .i64 (sqAt l k))) := Lib.hid (fun k hk W hW => by
    obtain ⟨a2, e, h1, _⟩ := hL.num (sqAt_get (k := k) (by omega))
    obtain ⟨a3, e3, _, h3⟩ := (Fr.lies hL hW).num (sqAt_get (k := k) (by omega))
    rw [e] at e3
    injection e3 with e3
    subst e3
    exact ⟨a2, e, h1, h3⟩)
  obtain ⟨a2, ea2, _, _⟩ := HLE.out 0 (Nat.zero_le _) w (Fr.nil w)
  subst ea2
  have HLC : Hid (∀ k, k ≤ ps.length → ∀ W, Fr w W [] → W.cell? (a2.add k) = some (.int .i64 (sqAt l k))) := Lib.hid (fun k hk W hW => by
    obtain ⟨a3, e3, _, h3⟩ := HLE.out k hk W hW
    injection e3 with e3
    subst e3
    exact h3)
  rw [hln]
  obtain ⟨N, hN⟩ : ∃ N, N = ps.length + 1 := ⟨_, rfl⟩
  rw [← hN]
  have HNN := Lib.hid hN
  have HGT : Hid (w.heap.size ≤ w.heap.size + 1 + 1) := Lib.hid (by omega)
  have HNE : Hid (∀ b' ∈ ([(w.heap.size + 1, 49, #[.int .i64 0, .int .i64 0]), (w.heap.size, 24, #[.string s, .slice (some a) ps.length c])] : List (Nat × TypeId × Array Value)), b'.1 ≠ w.heap.size + 1 + 1) := Lib.hid (fun b' hb' => by
    rcases List.mem_cons.1 hb' with rfl | hb'
    · show w.heap.size + 1 ≠ _; omega
    · rcases List.mem_cons.1 hb' with rfl | hb'
      · show w.heap.size ≠ _; omega
      · cases hb')
  clear hN hA hL hq hok hln hmiss HLE hhit
  go_enter Try.func24, Try.ntmps24
  go_wp2_with fail
  go_loopw [7] (fun i wr => ∃ k : Nat, k ≤ n ∧ i = .int .i64 k ∧ Fr w wr ((w.heap.size + 1 + 1, 49, #[.int .i64 (tloV ps l k), .int .i64 (thiV ps l k)]) :: [(w.heap.size + 1, 49, #[.int .i64 0, .int .i64 0]), (w.heap.size, 24, #[.string s, .slice (some a) ps.length c])])) (fun i _ => ps.length - (intOf i).toNat)
  case atStart => exact ⟨0, Nat.zero_le _, rfl, FT.out⟩
  case round =>
    obtain ⟨k, hk, rfl, hf⟩ := hrel
    have FK := Lib.hid hf
    have t0 := (hf.get 2 rfl).cell 0
    have t1 := (hf.get 2 rfl).cell 1
    have t2 := (hf.get 2 rfl).lt
    clear hf FT
    by_cases hk2 : k < n
    · skip
      have hkn : k < ps.length := by omega
      have hki : (k : Int) < (ps.length : Int) := by omega
      have hkN : (k : Int) < (N : Int) := by have := HNN.out; omega
      obtain ⟨k1, hk1⟩ : ∃ k1 : Nat, k1 = k + 1 := ⟨_, rfl⟩
      have HK1 := Lib.hid hk1
      have hwk := (IntWalk.i64_in ((k : Int) + 1) (by omega)).trans (show (k : Int) + 1 = (k1 : Int) by omega)
      have hk1N : (k1 : Int) < (N : Int) := by have := HNN.out; omega
      have hk1n : k1 ≤ ps.length := by omega
      obtain ⟨a3, ea, _, c0, c1, c2, c3⟩ := (Fr.lies HA.out FK.out).piece (gp_at (i := k) hkn)
      simp only [Option.some.injEq] at ea
      subst ea
      have hpo := okP_iff.1 (gp_ok HOK.out.each k)
      obtain ⟨⟨pl, pg, pm, pv0⟩, hP⟩ : ∃ P, gp ps k = P := ⟨_, rfl⟩
      have HP := Lib.hid hP
      rw [hP] at c0 c1 c2 c3 hpo
      simp only at c0 c1 c2 c3 hpo
      obtain ⟨⟨pl0, pl1⟩, _, _⟩ := hpo
      clear hP hk1
      obtain ⟨x, hx⟩ : ∃ x, sqAt l k = x := ⟨_, rfl⟩
      obtain ⟨y, hy⟩ : ∃ y, sqAt l k1 = y := ⟨_, rfl⟩
      have HXX := Lib.hid hx
      have HYY := Lib.hid hy
      have cx := HLC.out k (by omega) wr FK.out.tail.tail.tail
      have cy := HLC.out k1 hk1n wr FK.out.tail.tail.tail
      rw [hx] at cx
      rw [hy] at cy
      clear hx hy
      have HMK : Hid (zeroS l k = false) := Lib.hid (HMISS.out k (by omega))
      have HNZ : Hid (¬ (x = 0 ∧ y = 0)) := Lib.hid (fun h => by have := zero_iff.2 (show sqAt l k = 0 ∧ sqAt l (k + 1) = 0 by rw [HXX.out, ← HK1.out, HYY.out]; exact h); rw [HMK.out] at this; cases this)
      have hw3 := IntWalk.i64_in (2000 * pl) (by omega)
      go_upto_region 5 with fail
      go_cut [28] from 16 to 28 (fun r W => r = .bool false ∧ wr = W)
      case first =>
        by_cases e1 : x = 0
        · have e2 : ¬ y = 0 := fun e => HNZ.out ⟨e1, e⟩
          have e3 : (y == 0) = false := by simp [e2]
          have e4 : (x == 0) = true := by simp [e1]
          go_wp2_with fail
          go_meet
          exact ⟨rfl, rfl⟩
        · have e3 : (x == 0) = false := by simp [e1]
          go_wp2_with fail
          go_meet
          exact ⟨rfl, rfl⟩
      case rest =>
      obtain ⟨rfl, rfl⟩ := hcut
      have HST := tim_step HOK.out.each HQ.out HMK.out
      have HTB := tim_bound HOK.out.each HQ.out k (fun j hj => HMISS.out j (by omega))
      rw [HXX.out, ← HK1.out, HYY.out] at HST
      have hqx := HQ.out k
      have hqy := HQ.out k1
      rw [HXX.out] at hqx
      rw [HYY.out] at hqy
      have HR1 := Lib.hid (fun W => RootUp_any x hqx W)
      have HR2 := Lib.hid (fun W => RootUp_any y hqy W)
      have HQ1 := Lib.hid (fun W => Root_any x hqx W)
      have HQ2 := Lib.hid (fun W => Root_any y hqy W)
      have HSL : Hid (tloV ps l k1 = tloV ps l k + (2000 * pl).tdiv ((rtU x : Int) + rtU y)) := Lib.hid (by rw [HK1.out, tloV, ← HK1.out, HXX.out, HYY.out, HP.out])
      have HSH : Hid (thiV ps l k1 = thiV ps l k + (2000 * pl + (rtL x + rtL y) - 1).tdiv (rtL x + rtL y)) := Lib.hid (by rw [HK1.out, thiV, ← HK1.out, HXX.out, HYY.out, HP.out])
      obtain ⟨L1, hL1⟩ : ∃ L1, rtL x = L1 := ⟨_, rfl⟩
      obtain ⟨U1, hU1⟩ : ∃ U1 : Int, (rtU x : Int) = U1 := ⟨_, rfl⟩
      obtain ⟨L2, hL2⟩ : ∃ L2, rtL y = L2 := ⟨_, rfl⟩
      obtain ⟨U2, hU2⟩ : ∃ U2 : Int, (rtU y : Int) = U2 := ⟨_, rfl⟩
      rw [hU1] at HR1
      rw [hU2] at HR2
      rw [hL1] at HQ1
      rw [hL2] at HQ2
      rw [hU1, hU2] at HSL
      rw [hL1, hL2] at HSH
      rw [hL1, hL2, hU1, hU2] at HST
      obtain ⟨lo, hlo⟩ : ∃ lo, tloV ps l k = lo := ⟨_, rfl⟩
      obtain ⟨hi, hhi⟩ : ∃ hi, thiV ps l k = hi := ⟨_, rfl⟩
      rw [hlo] at HSL
      rw [hhi] at HSH
      rw [hlo, hhi] at HTB FK
      have hd1 := div_le (a := 2000 * pl) (b := U1 + U2) (by omega) (by omega)
      have hd2 := div_le (a := 2000 * pl + (L1 + L2) - 1) (b := L1 + L2) (by omega) (by omega)
      have HFL : Hid (∀ w, Calls Try.prog 58 #[.int .i64 (2000 * pl), .int .i64 (U1 + U2)] w fun e w' => e = .returned (.int .i64 ((2000 * pl).tdiv (U1 + U2))) ∧ w = w') := Lib.hid (fun w => by rw [Int.tdiv_eq_ediv_of_nonneg (by omega)]; exact Floor_any (2000 * pl) (U1 + U2) (by omega) (by omega) (by omega) (by omega) w)
      have HCL : Hid (∀ w, Calls Try.prog 60 #[.int .i64 (2000 * pl), .int .i64 (L1 + L2)] w fun e w' => e = .returned (.int .i64 ((2000 * pl + (L1 + L2) - 1).tdiv (L1 + L2))) ∧ w = w') := Lib.hid (fun w => by rw [← ceil_tdiv (by omega) (by omega)]; exact Ceil_any (2000 * pl) (L1 + L2) (by omega) (by omega) (by omega) (by omega) w)
      obtain ⟨d1, hdd1⟩ : ∃ d1, (2000 * pl).tdiv (U1 + U2) = d1 := ⟨_, rfl⟩
      obtain ⟨d2, hdd2⟩ : ∃ d2, (2000 * pl + (L1 + L2) - 1).tdiv (L1 + L2) = d2 := ⟨_, rfl⟩
      rw [hdd1] at HFL HSL hd1
      rw [hdd2] at HCL HSH hd2
      have hw1 := IntWalk.i64_in (U1 + U2) (by omega)
      have hw2 := IntWalk.i64_in (L1 + L2) (by omega)
      have hw4 := IntWalk.i64_in (lo + d1) (by omega)
      have hw5 := IntWalk.i64_in (hi + d2) (by omega)
      clear HST HTB hqx hqy hL1 hU1 hL2 hU2 hlo hhi hd1 hd2 hdd1 hdd2
      go_upto_region 8 with fail
      go_cut [] from 37 to 54 (fun W => Fr w W ((w.heap.size + 1 + 1, 49, #[.int .i64 (lo + d1), .int .i64 hi]) :: [(w.heap.size + 1, 49, #[.int .i64 0, .int .i64 0]), (w.heap.size, 24, #[.string s, .slice (some a) ps.length c])]))
      case first =>
        have HALL : Hid (∀ W, Fr w W ((w.heap.size + 1 + 1, 49, #[.int .i64 lo, .int .i64 hi]) :: [(w.heap.size + 1, 49, #[.int .i64 0, .int .i64 0]), (w.heap.size, 24, #[.string s, .slice (some a) ps.length c])]) → Fr w W ((w.heap.size + 1 + 1, 49, #[.int .i64 lo, .int .i64 hi]) :: [(w.heap.size + 1, 49, #[.int .i64 0, .int .i64 0]), (w.heap.size, 24, #[.string s, .slice (some a) ps.length c])]) ∧ W.cell? ⟨w.heap.size + 1 + 1, 0, none⟩ = some (.int .i64 lo) ∧ W.cell? (a2.add k) = some (.int .i64 x) ∧ W.cell? (a2.add k1) = some (.int .i64 y)) := Lib.hid (fun W hW => ⟨hW, hW.top.cell 0, by rw [← HXX.out]; exact HLC.out k (by omega) _ hW.tail.tail.tail, by rw [← HYY.out]; exact HLC.out k1 hk1n _ hW.tail.tail.tail⟩)
        have F10 : Fr w _ ((w.heap.size + 1 + 1, 49, #[.int .i64 lo, .int .i64 hi]) :: [(w.heap.size + 1, 49, #[.int .i64 0, .int .i64 0]), (w.heap.size, 24, #[.string s, .slice (some a) ps.length c])]) := FK.out
        refine Tw_start 18 (fun W => Fr w W ((w.heap.size + 1 + 1, 49, #[.int .i64 lo, .int .i64 hi]) :: [(w.heap.size + 1, 49, #[.int .i64 0, .int .i64 0]), (w.heap.size, 24, #[.string s, .slice (some a) ps.length c])]) ∧ W.cell? ⟨w.heap.size + 1 + 1, 0, none⟩ = some (.int .i64 lo) ∧ W.cell? (a2.add k) = some (.int .i64 x) ∧ W.cell? (a2.add k1) = some (.int .i64 y)) (by kernel_rfl) (by kernel_rfl) rfl ?_ ?_
        · (try dsimp only)
          ((go_split_ands; refine HALL.out _ ?_; (first | assumption | (repeat (first | assumption | refine Fr.new ?_ _ | refine Fr.drew ?_ | (refine Fr.set ?_ (by first | exact Nat.le_refl _ | omega | (simp; done) | (simp; omega)) (by first | (simp; done) | (simp; omega)) _))); done)))
        refine Tw_abs ?_
        intro wD hD
        clear hD
        refine Tw_takeL (i := 0) (v := ?tv31) rfl (by kernel_rfl) (by decide) (by kernel_rfl) (by kernel_rfl) (fun _ _ _ h => h) (by rfl) ?ty31 ?tn31
        case ty31 => (intro w hSw; (try dsimp only at hSw); go_simp <;> with_reducible rfl)
        (try simp only [Act.put, List.setIfInBounds_toArray, List.set_cons_zero, List.set_cons_succ])
        refine Tw_takeL (i := 1) (v := ?tv32) rfl (by kernel_rfl) (by decide) (by kernel_rfl) (by kernel_rfl) (fun _ _ _ h => h) (by rfl) ?ty32 ?tn32
        case ty32 => (intro w hSw; (try dsimp only at hSw); go_simp <;> with_reducible rfl)
        (try simp only [Act.put, List.setIfInBounds_toArray, List.set_cons_zero, List.set_cons_succ])
        refine Tw_takeL (i := 2) (v := ?tv33) rfl (by kernel_rfl) (by decide) (by kernel_rfl) (by kernel_rfl) (fun _ _ _ h => h) (by rfl) ?ty33 ?tn33
        case ty33 => (intro w hSw; (try dsimp only at hSw); go_simp <;> with_reducible rfl)
        (try simp only [Act.put, List.setIfInBounds_toArray, List.set_cons_zero, List.set_cons_succ])
        refine Tw_takeL (i := 3) (v := ?tv34) rfl (by kernel_rfl) (by decide) (by kernel_rfl) (by kernel_rfl) (fun _ _ _ h => h) (by rfl) ?ty34 ?tn34
        case ty34 => (intro w hSw; (try dsimp only at hSw); go_simp <;> with_reducible rfl)
        (try simp only [Act.put, List.setIfInBounds_toArray, List.set_cons_zero, List.set_cons_succ])
        refine Tw_takeL (i := 4) (v := ?tv35) rfl (by kernel_rfl) (by decide) (by kernel_rfl) (by kernel_rfl) (fun _ _ _ h => h) (by rfl) ?ty35 ?tn35
        case ty35 => (intro w hSw; (try dsimp only at hSw); go_simp <;> with_reducible rfl)
        (try simp only [Act.put, List.setIfInBounds_toArray, List.set_cons_zero, List.set_cons_succ])
        refine Tw_takeL (i := 5) (v := ?tv36) rfl (by kernel_rfl) (by decide) (by kernel_rfl) (by kernel_rfl) (fun _ _ _ h => h) (by rfl) ?ty36 ?tn36
        case ty36 => (intro w hSw; (try dsimp only at hSw); go_simp <;> with_reducible rfl)
        (try simp only [Act.put, List.setIfInBounds_toArray, List.set_cons_zero, List.set_cons_succ])
        refine Tw_takeL (i := 6) (v := ?tv37) rfl (by kernel_rfl) (by decide) (by kernel_rfl) (by kernel_rfl) (fun _ _ _ h => h) (by rfl) ?ty37 ?tn37
        case ty37 => (intro w hSw; (try dsimp only at hSw); go_simp <;> with_reducible rfl)
        (try simp only [Act.put, List.setIfInBounds_toArray, List.set_cons_zero, List.set_cons_succ])
        refine Tw_takeL (i := 8) (v := ?tv38) rfl (by kernel_rfl) (by decide) (by kernel_rfl) (by kernel_rfl) (fun _ _ _ h => h) (by rfl) ?ty38 ?tn38
        case ty38 => (intro w hSw; (try dsimp only at hSw); go_simp <;> with_reducible rfl)
        (try simp only [Act.put, List.setIfInBounds_toArray, List.set_cons_zero, List.set_cons_succ])
        refine Tw_takeL (i := 9) (v := ?tv39) rfl (by kernel_rfl) (by decide) (by kernel_rfl) (by kernel_rfl) (fun _ _ _ h => h) (by rfl) ?ty39 ?tn39
        case ty39 => (intro w hSw; (try dsimp only at hSw); go_simp <;> with_reducible rfl)
        (try simp only [Act.put, List.setIfInBounds_toArray, List.set_cons_zero, List.set_cons_succ])
        refine Tw_takeL (i := 10) (v := ?tv40) rfl (by kernel_rfl) (by decide) (by kernel_rfl) (by kernel_rfl) (fun _ _ _ h => h) (by rfl) ?ty40 ?tn40
        case ty40 => (intro w hSw; (try dsimp only at hSw); go_simp <;> with_reducible rfl)
        (try simp only [Act.put, List.setIfInBounds_toArray, List.set_cons_zero, List.set_cons_succ])
        refine Tw_takeL (i := 11) (v := ?tv41) rfl (by kernel_rfl) (by decide) (by kernel_rfl) (by kernel_rfl) (fun _ _ _ h => h) (by rfl) ?ty41 ?tn41
        case ty41 => (intro w hSw; (try dsimp only at hSw); go_simp <;> with_reducible rfl)
        (try simp only [Act.put, List.setIfInBounds_toArray, List.set_cons_zero, List.set_cons_succ])
        refine Tw_takeL (i := 12) (v := ?tv42) rfl (by kernel_rfl) (by decide) (by kernel_rfl) (by kernel_rfl) (fun _ _ _ h => h) (by rfl) ?ty42 ?tn42
        case ty42 => (intro w hSw; (try dsimp only at hSw); go_simp <;> with_reducible rfl)
        (try simp only [Act.put, List.setIfInBounds_toArray, List.set_cons_zero, List.set_cons_succ])
        refine Tw_all (rs := [7]) (by kernel_rfl) (by simp) (by decide) (fun hHeld => ?_)
        refine AllT.consL rfl (fun K hK => ?_) AllT.nil
        go_simp
        (go_at_call 59; go_split_ands; (with_reducible refine (HR1.out _).mono ?_); rintro e w7 ⟨rfl, rfl⟩)
        refine hK.out _ _ ?_ ?_
        · (try dsimp only)
          ((go_split_ands; refine HALL.out _ ?_; (first | assumption | (repeat (first | assumption | refine Fr.new ?_ _ | refine Fr.drew ?_ | (refine Fr.set ?_ (by first | exact Nat.le_refl _ | omega | (simp; done) | (simp; omega)) (by first | (simp; done) | (simp; omega)) _))); done)))
        clear hK K
        (try simp only [Act.put, List.setIfInBounds_toArray, List.set_cons_zero, List.set_cons_succ])
        refine Tw_all (rs := [13]) (by kernel_rfl) (by simp) (by decide) (fun hHeld => ?_)
        refine AllT.consL rfl (fun K hK => ?_) AllT.nil
        go_simp
        (go_at_call 59; go_split_ands; (with_reducible refine (HR2.out _).mono ?_); rintro e w7 ⟨rfl, rfl⟩)
        refine hK.out _ _ ?_ ?_
        · (try dsimp only)
          ((go_split_ands; refine HALL.out _ ?_; (first | assumption | (repeat (first | assumption | refine Fr.new ?_ _ | refine Fr.drew ?_ | (refine Fr.set ?_ (by first | exact Nat.le_refl _ | omega | (simp; done) | (simp; omega)) (by first | (simp; done) | (simp; omega)) _))); done)))
        clear hK K
        (try simp only [Act.put, List.setIfInBounds_toArray, List.set_cons_zero, List.set_cons_succ])
        refine Tw_takeL (i := 14) (v := ?tv43) rfl (by kernel_rfl) (by decide) (by kernel_rfl) (by kernel_rfl) (fun _ _ _ h => h) (by rfl) ?ty43 ?tn43
        case ty43 => (intro w hSw; (try dsimp only at hSw); go_simp <;> with_reducible rfl)
        (try simp only [Act.put, List.setIfInBounds_toArray, List.set_cons_zero, List.set_cons_succ])
        refine Tw_all (rs := [15]) (by kernel_rfl) (by simp) (by decide) (fun hHeld => ?_)
        refine AllT.consL rfl (fun K hK => ?_) AllT.nil
        go_simp
        (go_at_call 58; go_split_ands; (with_reducible refine (HFL.out _).mono ?_); rintro e w7 ⟨rfl, rfl⟩)
        refine hK.out _ _ ?_ ?_
        · (try dsimp only)
          ((go_split_ands; refine HALL.out _ ?_; (first | assumption | (repeat (first | assumption | refine Fr.new ?_ _ | refine Fr.drew ?_ | (refine Fr.set ?_ (by first | exact Nat.le_refl _ | omega | (simp; done) | (simp; omega)) (by first | (simp; done) | (simp; omega)) _))); done)))
        clear hK K
        (try simp only [Act.put, List.setIfInBounds_toArray, List.set_cons_zero, List.set_cons_succ])
        refine Tw_takeL (i := 16) (v := ?tv44) rfl (by kernel_rfl) (by decide) (by kernel_rfl) (by kernel_rfl) (fun _ _ _ h => h) (by rfl) ?ty44 ?tn44
        case ty44 => (intro w hSw; (try dsimp only at hSw); go_simp <;> with_reducible rfl)
        (try simp only [Act.put, List.setIfInBounds_toArray, List.set_cons_zero, List.set_cons_succ])
        refine Tw_takeL (i := 17) (v := ?tv45) rfl (by kernel_rfl) (by decide) (by kernel_rfl) (by kernel_rfl) (fun _ _ _ h => h) (by rfl) ?ty45 ?tn45
        case ty45 => (intro w hSw; (try dsimp only at hSw); go_simp <;> with_reducible rfl)
        (try simp only [Act.put, List.setIfInBounds_toArray, List.set_cons_zero, List.set_cons_succ])
        refine Tw_end (by kernel_rfl) (fun hh => ?_)
        obtain ⟨F11, _⟩ := hh
        clear HALL
        have n0 := F11.top.cell 0
        have g0 := F11.top.frozen 0
        have za := F11.top.lt
        go_wp2_with fail
        go_meet
        exact F11.put 0 _ HGT.out HNE.out
      case rest =>
      obtain ⟨wv2, rfl⟩ : ∃ W, W = wc := ⟨_, rfl⟩
      have F8 := Lib.hid hcut
      clear hcut FK
      go_upto_region 9 with fail
      have HALL : Hid (∀ W, Fr w W ((w.heap.size + 1 + 1, 49, #[.int .i64 (lo + d1), .int .i64 hi]) :: [(w.heap.size + 1, 49, #[.int .i64 0, .int .i64 0]), (w.heap.size, 24, #[.string s, .slice (some a) ps.length c])]) → Fr w W ((w.heap.size + 1 + 1, 49, #[.int .i64 (lo + d1), .int .i64 hi]) :: [(w.heap.size + 1, 49, #[.int .i64 0, .int .i64 0]), (w.heap.size, 24, #[.string s, .slice (some a) ps.length c])]) ∧ W.cell? ⟨w.heap.size + 1 + 1, 1, none⟩ = some (.int .i64 hi) ∧ W.cell? (a2.add k) = some (.int .i64 x) ∧ W.cell? (a2.add k1) = some (.int .i64 y)) := Lib.hid (fun W hW => ⟨hW, hW.top.cell 1, by rw [← HXX.out]; exact HLC.out k (by omega) _ hW.tail.tail.tail, by rw [← HYY.out]; exact HLC.out k1 hk1n _ hW.tail.tail.tail⟩)
      have F10 : Fr w _ ((w.heap.size + 1 + 1, 49, #[.int .i64 (lo + d1), .int .i64 hi]) :: [(w.heap.size + 1, 49, #[.int .i64 0, .int .i64 0]), (w.heap.size, 24, #[.string s, .slice (some a) ps.length c])]) := F8.out
      clear F8
      refine Tw_start 18 (fun W => Fr w W ((w.heap.size + 1 + 1, 49, #[.int .i64 (lo + d1), .int .i64 hi]) :: [(w.heap.size + 1, 49, #[.int .i64 0, .int .i64 0]), (w.heap.size, 24, #[.string s, .slice (some a) ps.length c])]) ∧ W.cell? ⟨w.heap.size + 1 + 1, 1, none⟩ = some (.int .i64 hi) ∧ W.cell? (a2.add k) = some (.int .i64 x) ∧ W.cell? (a2.add k1) = some (.int .i64 y)) (by kernel_rfl) (by kernel_rfl) rfl ?_ ?_
      · (try dsimp only)
        ((go_split_ands; refine HALL.out _ ?_; (first | assumption | (repeat (first | assumption | refine Fr.new ?_ _ | refine Fr.drew ?_ | (refine Fr.set ?_ (by first | exact Nat.le_refl _ | omega | (simp; done) | (simp; omega)) (by first | (simp; done) | (simp; omega)) _))); done)))
      refine Tw_abs ?_
      intro wD hD
      clear hD
      refine Tw_takeL (i := 0) (v := ?tv46) rfl (by kernel_rfl) (by decide) (by kernel_rfl) (by kernel_rfl) (fun _ _ _ h => h) (by rfl) ?ty46 ?tn46
      case ty46 => (intro w hSw; (try dsimp only at hSw); go_simp <;> with_reducible rfl)
      (try simp only [Act.put, List.setIfInBounds_toArray, List.set_cons_zero, List.set_cons_succ])
      refine Tw_takeL (i := 1) (v := ?tv47) rfl (by kernel_rfl) (by decide) (by kernel_rfl) (by kernel_rfl) (fun _ _ _ h => h) (by rfl) ?ty47 ?tn47
      case ty47 => (intro w hSw; (try dsimp only at hSw); go_simp <;> with_reducible rfl)
      (try simp only [Act.put, List.setIfInBounds_toArray, List.set_cons_zero, List.set_cons_succ])
      refine Tw_takeL (i := 2) (v := ?tv48) rfl (by kernel_rfl) (by decide) (by kernel_rfl) (by kernel_rfl) (fun _ _ _ h => h) (by rfl) ?ty48 ?tn48
      case ty48 => (intro w hSw; (try dsimp only at hSw); go_simp <;> with_reducible rfl)
      (try simp only [Act.put, List.setIfInBounds_toArray, List.set_cons_zero, List.set_cons_succ])
      refine Tw_takeL (i := 3) (v := ?tv49) rfl (by kernel_rfl) (by decide) (by kernel_rfl) (by kernel_rfl) (fun _ _ _ h => h) (by rfl) ?ty49 ?tn49
      case ty49 => (intro w hSw; (try dsimp only at hSw); go_simp <;> with_reducible rfl)
      (try simp only [Act.put, List.setIfInBounds_toArray, List.set_cons_zero, List.set_cons_succ])
      refine Tw_takeL (i := 4) (v := ?tv50) rfl (by kernel_rfl) (by decide) (by kernel_rfl) (by kernel_rfl) (fun _ _ _ h => h) (by rfl) ?ty50 ?tn50
      case ty50 => (intro w hSw; (try dsimp only at hSw); go_simp <;> with_reducible rfl)
      (try simp only [Act.put, List.setIfInBounds_toArray, List.set_cons_zero, List.set_cons_succ])
      refine Tw_takeL (i := 5) (v := ?tv51) rfl (by kernel_rfl) (by decide) (by kernel_rfl) (by kernel_rfl) (fun _ _ _ h => h) (by rfl) ?ty51 ?tn51
      case ty51 => (intro w hSw; (try dsimp only at hSw); go_simp <;> with_reducible rfl)
      (try simp only [Act.put, List.setIfInBounds_toArray, List.set_cons_zero, List.set_cons_succ])
      refine Tw_takeL (i := 6) (v := ?tv52) rfl (by kernel_rfl) (by decide) (by kernel_rfl) (by kernel_rfl) (fun _ _ _ h => h) (by rfl) ?ty52 ?tn52
      case ty52 => (intro w hSw; (try dsimp only at hSw); go_simp <;> with_reducible rfl)
      (try simp only [Act.put, List.setIfInBounds_toArray, List.set_cons_zero, List.set_cons_succ])
      refine Tw_takeL (i := 8) (v := ?tv53) rfl (by kernel_rfl) (by decide) (by kernel_rfl) (by kernel_rfl) (fun _ _ _ h => h) (by rfl) ?ty53 ?tn53
      case ty53 => (intro w hSw; (try dsimp only at hSw); go_simp <;> with_reducible rfl)
      (try simp only [Act.put, List.setIfInBounds_toArray, List.set_cons_zero, List.set_cons_succ])
      refine Tw_takeL (i := 9) (v := ?tv54) rfl (by kernel_rfl) (by decide) (by kernel_rfl) (by kernel_rfl) (fun _ _ _ h => h) (by rfl) ?ty54 ?tn54
      case ty54 => (intro w hSw; (try dsimp only at hSw); go_simp <;> with_reducible rfl)
      (try simp only [Act.put, List.setIfInBounds_toArray, List.set_cons_zero, List.set_cons_succ])
      refine Tw_takeL (i := 10) (v := ?tv55) rfl (by kernel_rfl) (by decide) (by kernel_rfl) (by kernel_rfl) (fun _ _ _ h => h) (by rfl) ?ty55 ?tn55
      case ty55 => (intro w hSw; (try dsimp only at hSw); go_simp <;> with_reducible rfl)
      (try simp only [Act.put, List.setIfInBounds_toArray, List.set_cons_zero, List.set_cons_succ])
      refine Tw_takeL (i := 11) (v := ?tv56) rfl (by kernel_rfl) (by decide) (by kernel_rfl) (by kernel_rfl) (fun _ _ _ h => h) (by rfl) ?ty56 ?tn56
      case ty56 => (intro w hSw; (try dsimp only at hSw); go_simp <;> with_reducible rfl)
      (try simp only [Act.put, List.setIfInBounds_toArray, List.set_cons_zero, List.set_cons_succ])
      refine Tw_takeL (i := 12) (v := ?tv57) rfl (by kernel_rfl) (by decide) (by kernel_rfl) (by kernel_rfl) (fun _ _ _ h => h) (by rfl) ?ty57 ?tn57
      case ty57 => (intro w hSw; (try dsimp only at hSw); go_simp <;> with_reducible rfl)
      (try simp only [Act.put, List.setIfInBounds_toArray, List.set_cons_zero, List.set_cons_succ])
      refine Tw_all (rs := [7]) (by kernel_rfl) (by simp) (by decide) (fun hHeld => ?_)
      refine AllT.consL rfl (fun K hK => ?_) AllT.nil
      go_simp
      (go_at_call 61; go_split_ands; (with_reducible refine (HQ1.out _).mono ?_); rintro e w7 ⟨rfl, rfl⟩)
      refine hK.out _ _ ?_ ?_
      · (try dsimp only)
        ((go_split_ands; refine HALL.out _ ?_; (first | assumption | (repeat (first | assumption | refine Fr.new ?_ _ | refine Fr.drew ?_ | (refine Fr.set ?_ (by first | exact Nat.le_refl _ | omega | (simp; done) | (simp; omega)) (by first | (simp; done) | (simp; omega)) _))); done)))
      clear hK K
      (try simp only [Act.put, List.setIfInBounds_toArray, List.set_cons_zero, List.set_cons_succ])
      refine Tw_all (rs := [13]) (by kernel_rfl) (by simp) (by decide) (fun hHeld => ?_)
      refine AllT.consL rfl (fun K hK => ?_) AllT.nil
      go_simp
      (go_at_call 61; go_split_ands; (with_reducible refine (HQ2.out _).mono ?_); rintro e w7 ⟨rfl, rfl⟩)
      refine hK.out _ _ ?_ ?_
      · (try dsimp only)
        ((go_split_ands; refine HALL.out _ ?_; (first | assumption | (repeat (first | assumption | refine Fr.new ?_ _ | refine Fr.drew ?_ | (refine Fr.set ?_ (by first | exact Nat.le_refl _ | omega | (simp; done) | (simp; omega)) (by first | (simp; done) | (simp; omega)) _))); done)))
      clear hK K
      (try simp only [Act.put, List.setIfInBounds_toArray, List.set_cons_zero, List.set_cons_succ])
      refine Tw_takeL (i := 14) (v := ?tv58) rfl (by kernel_rfl) (by decide) (by kernel_rfl) (by kernel_rfl) (fun _ _ _ h => h) (by rfl) ?ty58 ?tn58
      case ty58 => (intro w hSw; (try dsimp only at hSw); go_simp <;> with_reducible rfl)
      (try simp only [Act.put, List.setIfInBounds_toArray, List.set_cons_zero, List.set_cons_succ])
      refine Tw_all (rs := [15]) (by kernel_rfl) (by simp) (by decide) (fun hHeld => ?_)
      refine AllT.consL rfl (fun K hK => ?_) AllT.nil
      go_simp
      (go_at_call 60; go_split_ands; (with_reducible refine (HCL.out _).mono ?_); rintro e w7 ⟨rfl, rfl⟩)
      refine hK.out _ _ ?_ ?_
      · (try dsimp only)
        ((go_split_ands; refine HALL.out _ ?_; (first | assumption | (repeat (first | assumption | refine Fr.new ?_ _ | refine Fr.drew ?_ | (refine Fr.set ?_ (by first | exact Nat.le_refl _ | omega | (simp; done) | (simp; omega)) (by first | (simp; done) | (simp; omega)) _))); done)))
      clear hK K
      (try simp only [Act.put, List.setIfInBounds_toArray, List.set_cons_zero, List.set_cons_succ])
      refine Tw_takeL (i := 16) (v := ?tv59) rfl (by kernel_rfl) (by decide) (by kernel_rfl) (by kernel_rfl) (fun _ _ _ h => h) (by rfl) ?ty59 ?tn59
      case ty59 => (intro w hSw; (try dsimp only at hSw); go_simp <;> with_reducible rfl)
      (try simp only [Act.put, List.setIfInBounds_toArray, List.set_cons_zero, List.set_cons_succ])
      refine Tw_takeL (i := 17) (v := ?tv60) rfl (by kernel_rfl) (by decide) (by kernel_rfl) (by kernel_rfl) (fun _ _ _ h => h) (by rfl) ?ty60 ?tn60
      case ty60 => (intro w hSw; (try dsimp only at hSw); go_simp <;> with_reducible rfl)
      (try simp only [Act.put, List.setIfInBounds_toArray, List.set_cons_zero, List.set_cons_succ])
      refine Tw_end (by kernel_rfl) (fun hh => ?_)
      obtain ⟨F11, _⟩ := hh
      clear HALL
      have HF := Lib.hid F11
      have n0 := F11.top.cell 1
      have g0 := F11.top.frozen 1
      have za := F11.top.lt
      clear F11
      go_wp2_with fail
      go_roundw
      case rel => exact ⟨k1, by have := HK1.out; omega, rfl, by
        have h : Fr w _ ((w.heap.size + 1 + 1, 49, #[.int .i64 (lo + d1), .int .i64 (hi + d2)]) :: [(w.heap.size + 1, 49, #[.int .i64 0, .int .i64 0]), (w.heap.size, 24, #[.string s, .slice (some a) ps.length c])]) := HF.out.put 1 (.int .i64 (hi + d2)) HGT.out HNE.out
        rw [HSL.out, HSH.out]
        exact h⟩
      case measure => have := HK1.out; simp [intOf] <;> omega
    · obtain rfl : k = n := by omega
      have hkn : k < ps.length := by omega
      have hki : (k : Int) < (ps.length : Int) := by omega
      have hkN : (k : Int) < (N : Int) := by have := HNN.out; omega
      obtain ⟨k1, hk1⟩ : ∃ k1 : Nat, k1 = k + 1 := ⟨_, rfl⟩
      have HK1 := Lib.hid hk1
      have hwk := (IntWalk.i64_in ((k : Int) + 1) (by omega)).trans (show (k : Int) + 1 = (k1 : Int) by omega)
      have hk1N : (k1 : Int) < (N : Int) := by have := HNN.out; omega
      have hk1n : k1 ≤ ps.length := by omega
      obtain ⟨a3, ea, _, c0, c1, c2, c3⟩ := (Fr.lies HA.out FK.out).piece (gp_at (i := k) hkn)
      simp only [Option.some.injEq] at ea
      subst ea
      have hpo := okP_iff.1 (gp_ok HOK.out.each k)
      obtain ⟨⟨pl, pg, pm, pv0⟩, hP⟩ : ∃ P, gp ps k = P := ⟨_, rfl⟩
      have HP := Lib.hid hP
      rw [hP] at c0 c1 c2 c3 hpo
      simp only at c0 c1 c2 c3 hpo
      obtain ⟨⟨pl0, pl1⟩, _, _⟩ := hpo
      clear hP hk1
      obtain ⟨x, hx⟩ : ∃ x, sqAt l k = x := ⟨_, rfl⟩
      obtain ⟨y, hy⟩ : ∃ y, sqAt l k1 = y := ⟨_, rfl⟩
      have HXX := Lib.hid hx
      have HYY := Lib.hid hy
      have cx := HLC.out k (by omega) wr FK.out.tail.tail.tail
      have cy := HLC.out k1 hk1n wr FK.out.tail.tail.tail
      rw [hx] at cx
      rw [hy] at cy
      clear hx hy
      have HZZ : Hid (x = 0 ∧ y = 0) := Lib.hid (by have := zero_iff.1 HHIT.out; rw [HXX.out, ← HK1.out, HYY.out] at this; exact this)
      obtain ⟨rfl, rfl⟩ := HZZ.out
      have d0 := (FK.out.get 1 rfl).cell 0
      have d1 := (FK.out.get 1 rfl).cell 1
      have f0 := (FK.out.get 1 rfl).frozen 0
      have f1 := (FK.out.get 1 rfl).frozen 1
      have zN := (FK.out.get 1 rfl).lt
      go_wp2_with fail
      exact bodyPost_ret (v := .tuple #[.agg #[.int .i64 0, .int .i64 0], .int .i64 11]) (by simp [results, Try.results24, go_sem, d0, d1]) rfl ⟨rfl, ((FK.out.bl.setCell (p := ⟨w.heap.size + 1, 0, none⟩) (by show w.heap.size ≤ w.heap.size + 1; omega) _).setCell (p := ⟨w.heap.size + 1, 1, none⟩) (by show w.heap.size ≤ w.heap.size + 1; omega) _)⟩

/-- Square k can be run: within the limit, and what a piece can change. -/
theorem bad_no {ps : List Bp} {b : Bs} {l : List Int} {k : Nat} : badS ps b l k = false ↔ ¬ limV ps k < sqAt l k ∧ (0 < k → sqAt l (k - 1) - lossV (gp ps (k - 1)) b.brk ≤ sqAt l k ∧ sqAt l k ≤ sqAt l (k - 1) - lossV (gp ps (k - 1)) (-b.drv)) := by
  unfold badS
  rw [Bool.or_eq_false_iff, Bool.and_eq_false_iff, decide_eq_false_iff_not, decide_eq_false_iff_not, Bool.not_eq_false', inB_iff, drv_loss]
  constructor
  · rintro ⟨h1, h2⟩
    refine ⟨h1, fun h0 => ?_⟩
    rcases h2 with h | h
    · exact absurd h0 h
    · omega
  · rintro ⟨h1, h2⟩
    refine ⟨h1, ?_⟩
    by_cases h0 : 0 < k
    · right; have := h2 h0; omega
    · left; exact h0

set_option maxHeartbeats 3200000 in
set_option maxRecDepth 100000 in
theorem refCheckSquares_ok (s : ByteArray) (ps : List Bp) (a : Addr) (c : Nat) (hok : OkT s ps) (b : Bs) (hb : OkS b) (l : List Int) (B : Option Addr) (d : Nat) (hln : l.length = ps.length + 1) (hq : ∀ k, 0 ≤ sqAt l k ∧ sqAt l k ≤ 20000000000) (hmiss : ∀ j, j ≤ ps.length → badS ps b l j = false) (w : World) (hA : Lies w w.heap.size (some a) (ps.flatMap pc)) (hL : Lies w w.heap.size B (ic l)) :
    Calls Try.prog 23 #[.agg #[.string s, .slice (some a) ps.length c], .agg #[.int .i64 b.brk, .int .i64 b.drag, .int .i64 b.drv], .slice B l.length d] w fun e w' => e = .returned (.tuple #[.int .i64 0, .int .i64 0]) ∧ Below w.heap.size w w' := by
  have F0 := Lib.hid (Fr.b2 w 24 #[.string s, .slice (some a) ps.length c] 26 #[.int .i64 b.brk, .int .i64 b.drag, .int .i64 b.drv])
  have HA := Lib.hid hA
  have HOK := Lib.hid hok
  have HB := Lib.hid hb
  have HQ := Lib.hid hq
  have HMISS := Lib.hid hmiss
  have h12 := hok.n12
  have hl12 : (ps.length : Int) ≤ 12 := by omega
  have HLE : Hid (∀ k, k ≤ ps.length → ∀ W, Fr w W [] → ∃ a2, B = some a2 ∧ a2.block < w.heap.size ∧ W.cell? (a2.add k) = some (.int .i64 (sqAt l k))) := Lib.hid (fun k hk W hW => by
    obtain ⟨a2, e, h1, _⟩ := hL.num (sqAt_get (k := k) (by omega))
    obtain ⟨a3, e3, _, h3⟩ := (Fr.lies hL hW).num (sqAt_get (k := k) (by omega))
    rw [e] at e3
    injection e3 with e3
    subst e3
    exact ⟨a2, e, h1, h3⟩)
  obtain ⟨a2, ea2, _, _⟩ := HLE.out 0 (Nat.zero_le _) w (Fr.nil w)
  subst ea2
  have HLC : Hid (∀ k, k ≤ ps.length → ∀ W, Fr w W [] → W.cell? (a2.add k) = some (.int .i64 (sqAt l k))) := Lib.hid (fun k hk W hW => by
    obtain ⟨a3, e3, _, h3⟩ := HLE.out k hk W hW
    injection e3 with e3
    subst e3
    exact h3)
  rw [hln]
  obtain ⟨N, hN⟩ : ∃ N, N = ps.length + 1 := ⟨_, rfl⟩
  rw [← hN]
  have HNN := Lib.hid hN
  have y0 := (F0.out.get 1 rfl).cell 0
  have y1 := (F0.out.get 1 rfl).cell 1
  clear hN hA hL hq hok hb hln hmiss HLE
  go_enter Try.func23, Try.ntmps23
  go_wp2_with fail
  refine (refLimitsAt_any s ps a c HOK.out.n0 HOK.out.n12 HOK.out.each _ (Fr.lies HA.out F0.out)).mono ?_
  rintro e w1 ⟨gl, rfl, hll, _, hb1⟩
  have HL1 := Lib.hid hll
  have F1 := Lib.hid (F0.out.call hb1)
  clear hll hb1 F0 y0 y1
  rw [listF_len, ← HNN.out]
  obtain ⟨aL, cL⟩ := gl
  obtain ⟨a4, ea, _, _⟩ := HL1.out.num (listF_at (n := ps.length + 1) (f := limV ps) (k := 0) (by omega))
  try simp only at ea
  subst ea
  go_wp2_with fail
  go_loopw [9] (fun i wr => ∃ k : Nat, k ≤ N ∧ i = .int .i64 k ∧ Fr w1 wr []) (fun i _ => N - (intOf i).toNat)
  case atStart => exact ⟨0, Nat.zero_le _, rfl, Fr.nil _⟩
  case round =>
    obtain ⟨k, hk, rfl, hf1⟩ := hrel
    have HF1 := Lib.hid hf1
    have FT := Lib.hid (F1.out.call hf1.bl)
    have t0 := (FT.out.get 1 rfl).cell 0
    have t1 := (FT.out.get 1 rfl).cell 1
    have t2 := (FT.out.get 1 rfl).lt
    clear hf1
    by_cases hk2 : k < N
    · skip
      have hkN : k < N := by have := HNN.out; omega
      have hkn : k ≤ ps.length := by have := HNN.out; omega
      have hki : (k : Int) < (N : Int) := by omega
      obtain ⟨x, hx⟩ : ∃ x, sqAt l k = x := ⟨_, rfl⟩
      obtain ⟨m, hm⟩ : ∃ m, limV ps k = m := ⟨_, rfl⟩
      have HXX := Lib.hid hx
      have HMM := Lib.hid hm
      have cx := HLC.out k hkn wr FT.out.tail.tail
      have cm := list_cell2 (k := k) (Lies.call HL1.out HF1.out.bl) (by omega)
      rw [hx] at cx
      rw [hm] at cm
      have hqx := HQ.out k
      rw [hx] at hqx
      have hwk := IntWalk.i64_in ((k : Int) + 1) (by omega)
      clear hx hm
      have hgd := bad_no.1 (HMISS.out k (by have := HNN.out; omega))
      rw [HXX.out, HMM.out] at hgd
      obtain ⟨hlm, hst⟩ := hgd
      have hlm2 : decide (m < x) = false := decide_eq_false hlm
      go_upto_region 5 with fail
      go_cut [26] from 18 to 26 (fun r W => r = .bool false ∧ Fr wr W [])
      case first =>
        go_quiet (fail)
        go_wp2_with fail
        go_meet
        exact ⟨rfl, (Fr.nil wr).call (below_drewN (Below.refl _ _) _)⟩
      case rest =>
      obtain ⟨wu, rfl⟩ : ∃ W, W = wc := ⟨_, rfl⟩
      obtain ⟨rfl, hx5⟩ := hcut
      have FK := Lib.hid (FT.out.call hx5.bl)
      have HF1 := Lib.hid (HF1.out.call hx5.bl)
      have t0 := (FK.out.get 1 rfl).cell 0
      have t1 := (FK.out.get 1 rfl).cell 1
      have t2 := (FK.out.get 1 rfl).lt
      have cx := HLC.out k hkn wu FK.out.tail.tail
      rw [HXX.out] at cx
      clear hx5 FT cm
      by_cases hk0 : 0 < k
      · skip
        have hst := hst hk0
        rw [← HXX.out] at hst
        obtain ⟨j, hj⟩ : ∃ j : Nat, j = k - 1 := ⟨_, rfl⟩
        have hwj := (IntWalk.i64_in ((k : Int) - 1) (by omega)).trans (show (k : Int) - 1 = (j : Int) by omega)
        have hj0 : (j : Int) < (N : Int) := by omega
        have hjn : j < ps.length := by omega
        have HJJ := Lib.hid hj
        obtain ⟨y, hy⟩ : ∃ y, sqAt l j = y := ⟨_, rfl⟩
        have HYY := Lib.hid hy
        have cy := HLC.out j (by omega) wu FK.out.tail.tail
        rw [hy] at cy
        have hqy := HQ.out j
        rw [hy] at hqy
        have hdb : -3000 ≤ -b.drv ∧ -b.drv ≤ 3000 := by have := HB.out.v0; have := HB.out.v1; omega
        have hdk : -3000 ≤ b.brk ∧ b.brk ≤ 3000 := by have := HB.out.b0; have := HB.out.b1; omega
        have hb7 := lossV_bound (gp_ok HOK.out.each j) hdb
        have hb8 := lossV_bound (gp_ok HOK.out.each j) hdk
        have HL7 := Lib.hid (fun W hW => loses_any s ps a c HOK.out.n12 HOK.out.each j hjn (-b.drv) hdb W hW)
        have HL8 := Lib.hid (fun W hW => loses_any s ps a c HOK.out.n12 HOK.out.each j hjn b.brk hdk W hW)
        have hwn := IntWalk.i64_in (-b.drv) (by omega)
        rw [HXX.out, ← hj, hy] at hst
        obtain ⟨l7, hl7⟩ : ∃ l7, lossV (gp ps j) (-b.drv) = l7 := ⟨_, rfl⟩
        obtain ⟨l8, hl8⟩ : ∃ l8, lossV (gp ps j) b.brk = l8 := ⟨_, rfl⟩
        rw [hl7] at HL7 hb7
        rw [hl8] at HL8 hb8
        rw [hl7, hl8] at hst
        have hw7 := IntWalk.i64_in (y - l7) (by omega)
        have hw8 := IntWalk.i64_in (y - l8) (by omega)
        have hkp : decide ((0 : Int) < (k : Int)) = true := decide_eq_true (by omega)
        have hc7 : decide (y - l7 < x) = false := decide_eq_false (by omega)
        have hc8 : decide (x < y - l8) = false := decide_eq_false (by omega)
        clear hy hj hl7 hl8 hst hb7 hb8 hqy hqx hdb hdk
        go_upto_region 7 with fail
        go_cut [68] from 28 to 68 (fun r W => r = .bool false ∧ Fr wu W [])
        case first =>
          have HALL : Hid (∀ W, Fr wu W [] → Fr wu W [] ∧ W.cell? ⟨w.heap.size, 0, none⟩ = some (.string s) ∧ W.cell? ⟨w.heap.size, 1, none⟩ = some (.slice (some a) ps.length c) ∧ W.cell? ⟨w.heap.size + 1, 0, none⟩ = some (.int .i64 b.brk) ∧ W.cell? ⟨w.heap.size + 1, 2, none⟩ = some (.int .i64 b.drv) ∧ W.cell? (a2.add k) = some (.int .i64 x) ∧ W.cell? (a2.add j) = some (.int .i64 y)) := Lib.hid (fun W hW => ⟨hW, ((FK.out.get 1 rfl).call hW.bl).cell 0, ((FK.out.get 1 rfl).call hW.bl).cell 1, ((FK.out.get 0 rfl).call hW.bl).cell 0, ((FK.out.get 0 rfl).call hW.bl).cell 2, by rw [← HXX.out]; exact HLC.out k hkn _ (FK.out.tail.tail.call hW.bl), by rw [← HYY.out]; exact HLC.out j (by omega) _ (FK.out.tail.tail.call hW.bl)⟩)
          have F10 : Fr wu _ [] := Fr.nil wu
          refine Tw_start 40 (fun W => Fr wu W [] ∧ W.cell? ⟨w.heap.size, 0, none⟩ = some (.string s) ∧ W.cell? ⟨w.heap.size, 1, none⟩ = some (.slice (some a) ps.length c) ∧ W.cell? ⟨w.heap.size + 1, 0, none⟩ = some (.int .i64 b.brk) ∧ W.cell? ⟨w.heap.size + 1, 2, none⟩ = some (.int .i64 b.drv) ∧ W.cell? (a2.add k) = some (.int .i64 x) ∧ W.cell? (a2.add j) = some (.int .i64 y)) (by kernel_rfl) (by kernel_rfl) rfl ?_ ?_
          · (try dsimp only)
            ((go_split_ands; refine HALL.out _ ?_; (first | assumption | (repeat (first | assumption | refine Fr.new ?_ _ | refine Fr.drew ?_ | (refine Fr.set ?_ (by first | exact Nat.le_refl _ | omega | (simp; done) | (simp; omega)) (by first | (simp; done) | (simp; omega)) _))); done)))
          refine Tw_abs ?_
          intro wD hD
          clear hD
          refine Tw_takeL (i := 0) (v := ?tv61) rfl (by kernel_rfl) (by decide) (by kernel_rfl) (by kernel_rfl) (fun _ _ _ h => h) (by rfl) ?ty61 ?tn61
          case ty61 => (intro w hSw; (try dsimp only at hSw); go_simp <;> with_reducible rfl)
          (try simp only [Act.put, List.setIfInBounds_toArray, List.set_cons_zero, List.set_cons_succ])
          refine Tw_takeL (i := 1) (v := ?tv62) rfl (by kernel_rfl) (by decide) (by kernel_rfl) (by kernel_rfl) (fun _ _ _ h => h) (by rfl) ?ty62 ?tn62
          case ty62 => (intro w hSw; (try dsimp only at hSw); go_simp <;> with_reducible rfl)
          (try simp only [Act.put, List.setIfInBounds_toArray, List.set_cons_zero, List.set_cons_succ])
          refine Tw_takeL (i := 2) (v := ?tv63) rfl (by kernel_rfl) (by decide) (by kernel_rfl) (by kernel_rfl) (fun _ _ _ h => h) (by rfl) ?ty63 ?tn63
          case ty63 => (intro w hSw; (try dsimp only at hSw); go_simp <;> with_reducible rfl)
          (try simp only [Act.put, List.setIfInBounds_toArray, List.set_cons_zero, List.set_cons_succ])
          refine Tw_takeL (i := 3) (v := ?tv64) rfl (by kernel_rfl) (by decide) (by kernel_rfl) (by kernel_rfl) (fun _ _ _ h => h) (by rfl) ?ty64 ?tn64
          case ty64 => (intro w hSw; (try dsimp only at hSw); go_simp <;> with_reducible rfl)
          (try simp only [Act.put, List.setIfInBounds_toArray, List.set_cons_zero, List.set_cons_succ])
          refine Tw_takeL (i := 4) (v := ?tv65) rfl (by kernel_rfl) (by decide) (by kernel_rfl) (by kernel_rfl) (fun _ _ _ h => h) (by rfl) ?ty65 ?tn65
          case ty65 => (intro w hSw; (try dsimp only at hSw); go_simp <;> with_reducible rfl)
          (try simp only [Act.put, List.setIfInBounds_toArray, List.set_cons_zero, List.set_cons_succ])
          refine Tw_takeL (i := 5) (v := ?tv66) rfl (by kernel_rfl) (by decide) (by kernel_rfl) (by kernel_rfl) (fun _ _ _ h => h) (by rfl) ?ty66 ?tn66
          case ty66 => (intro w hSw; (try dsimp only at hSw); go_simp <;> with_reducible rfl)
          (try simp only [Act.put, List.setIfInBounds_toArray, List.set_cons_zero, List.set_cons_succ])
          refine Tw_takeL (i := 6) (v := ?tv67) rfl (by kernel_rfl) (by decide) (by kernel_rfl) (by kernel_rfl) (fun _ _ _ h => h) (by rfl) ?ty67 ?tn67
          case ty67 => (intro w hSw; (try dsimp only at hSw); go_simp <;> with_reducible rfl)
          (try simp only [Act.put, List.setIfInBounds_toArray, List.set_cons_zero, List.set_cons_succ])
          refine Tw_takeL (i := 7) (v := ?tv68) rfl (by kernel_rfl) (by decide) (by kernel_rfl) (by kernel_rfl) (fun _ _ _ h => h) (by rfl) ?ty68 ?tn68
          case ty68 => (intro w hSw; (try dsimp only at hSw); go_simp <;> with_reducible rfl)
          (try simp only [Act.put, List.setIfInBounds_toArray, List.set_cons_zero, List.set_cons_succ])
          refine Tw_takeL (i := 8) (v := ?tv69) rfl (by kernel_rfl) (by decide) (by kernel_rfl) (by kernel_rfl) (fun _ _ _ h => h) (by rfl) ?ty69 ?tn69
          case ty69 => (intro w hSw; (try dsimp only at hSw); go_simp <;> with_reducible rfl)
          (try simp only [Act.put, List.setIfInBounds_toArray, List.set_cons_zero, List.set_cons_succ])
          refine Tw_takeL (i := 9) (v := ?tv70) rfl (by kernel_rfl) (by decide) (by kernel_rfl) (by kernel_rfl) (fun _ _ _ h => h) (by rfl) ?ty70 ?tn70
          case ty70 => (intro w hSw; (try dsimp only at hSw); go_simp <;> with_reducible rfl)
          (try simp only [Act.put, List.setIfInBounds_toArray, List.set_cons_zero, List.set_cons_succ])
          refine Tw_takeL (i := 10) (v := ?tv71) rfl (by kernel_rfl) (by decide) (by kernel_rfl) (by kernel_rfl) (fun _ _ _ h => h) (by rfl) ?ty71 ?tn71
          case ty71 => (intro w hSw; (try dsimp only at hSw); go_simp <;> with_reducible rfl)
          (try simp only [Act.put, List.setIfInBounds_toArray, List.set_cons_zero, List.set_cons_succ])
          refine Tw_takeL (i := 11) (v := ?tv72) rfl (by kernel_rfl) (by decide) (by kernel_rfl) (by kernel_rfl) (fun _ _ _ h => h) (by rfl) ?ty72 ?tn72
          case ty72 => (intro w hSw; (try dsimp only at hSw); go_simp <;> with_reducible rfl)
          (try simp only [Act.put, List.setIfInBounds_toArray, List.set_cons_zero, List.set_cons_succ])
          refine Tw_takeL (i := 12) (v := ?tv73) rfl (by kernel_rfl) (by decide) (by kernel_rfl) (by kernel_rfl) (fun _ _ _ h => h) (by rfl) ?ty73 ?tn73
          case ty73 => (intro w hSw; (try dsimp only at hSw); go_simp <;> with_reducible rfl)
          (try simp only [Act.put, List.setIfInBounds_toArray, List.set_cons_zero, List.set_cons_succ])
          refine Tw_takeL (i := 13) (v := ?tv74) rfl (by kernel_rfl) (by decide) (by kernel_rfl) (by kernel_rfl) (fun _ _ _ h => h) (by rfl) ?ty74 ?tn74
          case ty74 => (intro w hSw; (try dsimp only at hSw); go_simp <;> with_reducible rfl)
          (try simp only [Act.put, List.setIfInBounds_toArray, List.set_cons_zero, List.set_cons_succ])
          refine Tw_takeL (i := 14) (v := ?tv75) rfl (by kernel_rfl) (by decide) (by kernel_rfl) (by kernel_rfl) (fun _ _ _ h => h) (by rfl) ?ty75 ?tn75
          case ty75 => (intro w hSw; (try dsimp only at hSw); go_simp <;> with_reducible rfl)
          (try simp only [Act.put, List.setIfInBounds_toArray, List.set_cons_zero, List.set_cons_succ])
          refine Tw_takeL (i := 15) (v := ?tv76) rfl (by kernel_rfl) (by decide) (by kernel_rfl) (by kernel_rfl) (fun _ _ _ h => h) (by rfl) ?ty76 ?tn76
          case ty76 => (intro w hSw; (try dsimp only at hSw); go_simp <;> with_reducible rfl)
          (try simp only [Act.put, List.setIfInBounds_toArray, List.set_cons_zero, List.set_cons_succ])
          refine Tw_takeL (i := 16) (v := ?tv77) rfl (by kernel_rfl) (by decide) (by kernel_rfl) (by kernel_rfl) (fun _ _ _ h => h) (by rfl) ?ty77 ?tn77
          case ty77 => (intro w hSw; (try dsimp only at hSw); go_simp <;> with_reducible rfl)
          (try simp only [Act.put, List.setIfInBounds_toArray, List.set_cons_zero, List.set_cons_succ])
          refine Tw_takeL (i := 17) (v := ?tv78) rfl (by kernel_rfl) (by decide) (by kernel_rfl) (by kernel_rfl) (fun _ _ _ h => h) (by rfl) ?ty78 ?tn78
          case ty78 => (intro w hSw; (try dsimp only at hSw); go_simp <;> with_reducible rfl)
          (try simp only [Act.put, List.setIfInBounds_toArray, List.set_cons_zero, List.set_cons_succ])
          refine Tw_all (rs := [18]) (by kernel_rfl) (by simp) (by decide) (fun hHeld => ?_)
          refine AllT.consL rfl (fun K hK => ?_) AllT.nil
          go_simp
          (go_at_call 57; go_split_ands; (with_reducible refine (HL7.out _ (Fr.lies (Fr.lies HA.out FK.out) (by assumption))).mono ?_); rintro e w7 ⟨rfl, hb7⟩; have F4 := Fr.call (by assumption) hb7; clear hb7)
          refine hK.out _ _ ?_ ?_
          · (try dsimp only)
            ((go_split_ands; refine HALL.out _ ?_; (first | assumption | (repeat (first | assumption | refine Fr.new ?_ _ | refine Fr.drew ?_ | (refine Fr.set ?_ (by first | exact Nat.le_refl _ | omega | (simp; done) | (simp; omega)) (by first | (simp; done) | (simp; omega)) _))); done)))
          clear hK K
          (try simp only [Act.put, List.setIfInBounds_toArray, List.set_cons_zero, List.set_cons_succ])
          refine Tw_takeL (i := 19) (v := ?tv79) rfl (by kernel_rfl) (by decide) (by kernel_rfl) (by kernel_rfl) (fun _ _ _ h => h) (by rfl) ?ty79 ?tn79
          case ty79 => (intro w hSw; (try dsimp only at hSw); go_simp <;> with_reducible rfl)
          (try simp only [Act.put, List.setIfInBounds_toArray, List.set_cons_zero, List.set_cons_succ])
          refine Tw_takeL (i := 20) (v := ?tv80) rfl (by kernel_rfl) (by decide) (by kernel_rfl) (by kernel_rfl) (fun _ _ _ h => h) (by rfl) ?ty80 ?tn80
          case ty80 => (intro w hSw; (try dsimp only at hSw); go_simp <;> with_reducible rfl)
          (try simp only [Act.put, List.setIfInBounds_toArray, List.set_cons_zero, List.set_cons_succ])
          refine Tw_takeL (i := 21) (v := ?tv81) rfl (by kernel_rfl) (by decide) (by kernel_rfl) (by kernel_rfl) (fun _ _ _ h => h) (by rfl) ?ty81 ?tn81
          case ty81 => (intro w hSw; (try dsimp only at hSw); go_simp <;> with_reducible rfl)
          (try simp only [Act.put, List.setIfInBounds_toArray, List.set_cons_zero, List.set_cons_succ])
          refine Tw_takeL (i := 22) (v := ?tv82) rfl (by kernel_rfl) (by decide) (by kernel_rfl) (by kernel_rfl) (fun _ _ _ h => h) (by rfl) ?ty82 ?tn82
          case ty82 => (intro w hSw; (try dsimp only at hSw); go_simp <;> with_reducible rfl)
          (try simp only [Act.put, List.setIfInBounds_toArray, List.set_cons_zero, List.set_cons_succ])
          refine Tw_takeL (i := 23) (v := ?tv83) rfl (by kernel_rfl) (by decide) (by kernel_rfl) (by kernel_rfl) (fun _ _ _ h => h) (by rfl) ?ty83 ?tn83
          case ty83 => (intro w hSw; (try dsimp only at hSw); go_simp <;> with_reducible rfl)
          (try simp only [Act.put, List.setIfInBounds_toArray, List.set_cons_zero, List.set_cons_succ])
          refine Tw_takeL (i := 24) (v := ?tv84) rfl (by kernel_rfl) (by decide) (by kernel_rfl) (by kernel_rfl) (fun _ _ _ h => h) (by rfl) ?ty84 ?tn84
          case ty84 => (intro w hSw; (try dsimp only at hSw); go_simp <;> with_reducible rfl)
          (try simp only [Act.put, List.setIfInBounds_toArray, List.set_cons_zero, List.set_cons_succ])
          refine Tw_takeL (i := 25) (v := ?tv85) rfl (by kernel_rfl) (by decide) (by kernel_rfl) (by kernel_rfl) (fun _ _ _ h => h) (by rfl) ?ty85 ?tn85
          case ty85 => (intro w hSw; (try dsimp only at hSw); go_simp <;> with_reducible rfl)
          (try simp only [Act.put, List.setIfInBounds_toArray, List.set_cons_zero, List.set_cons_succ])
          refine Tw_takeL (i := 26) (v := ?tv86) rfl (by kernel_rfl) (by decide) (by kernel_rfl) (by kernel_rfl) (fun _ _ _ h => h) (by rfl) ?ty86 ?tn86
          case ty86 => (intro w hSw; (try dsimp only at hSw); go_simp <;> with_reducible rfl)
          (try simp only [Act.put, List.setIfInBounds_toArray, List.set_cons_zero, List.set_cons_succ])
          refine Tw_takeL (i := 27) (v := ?tv87) rfl (by kernel_rfl) (by decide) (by kernel_rfl) (by kernel_rfl) (fun _ _ _ h => h) (by rfl) ?ty87 ?tn87
          case ty87 => (intro w hSw; (try dsimp only at hSw); go_simp <;> with_reducible rfl)
          (try simp only [Act.put, List.setIfInBounds_toArray, List.set_cons_zero, List.set_cons_succ])
          refine Tw_takeL (i := 28) (v := ?tv88) rfl (by kernel_rfl) (by decide) (by kernel_rfl) (by kernel_rfl) (fun _ _ _ h => h) (by rfl) ?ty88 ?tn88
          case ty88 => (intro w hSw; (try dsimp only at hSw); go_simp <;> with_reducible rfl)
          (try simp only [Act.put, List.setIfInBounds_toArray, List.set_cons_zero, List.set_cons_succ])
          refine Tw_takeL (i := 29) (v := ?tv89) rfl (by kernel_rfl) (by decide) (by kernel_rfl) (by kernel_rfl) (fun _ _ _ h => h) (by rfl) ?ty89 ?tn89
          case ty89 => (intro w hSw; (try dsimp only at hSw); go_simp <;> with_reducible rfl)
          (try simp only [Act.put, List.setIfInBounds_toArray, List.set_cons_zero, List.set_cons_succ])
          refine Tw_takeL (i := 30) (v := ?tv90) rfl (by kernel_rfl) (by decide) (by kernel_rfl) (by kernel_rfl) (fun _ _ _ h => h) (by rfl) ?ty90 ?tn90
          case ty90 => (intro w hSw; (try dsimp only at hSw); go_simp <;> with_reducible rfl)
          (try simp only [Act.put, List.setIfInBounds_toArray, List.set_cons_zero, List.set_cons_succ])
          refine Tw_takeL (i := 31) (v := ?tv91) rfl (by kernel_rfl) (by decide) (by kernel_rfl) (by kernel_rfl) (fun _ _ _ h => h) (by rfl) ?ty91 ?tn91
          case ty91 => (intro w hSw; (try dsimp only at hSw); go_simp <;> with_reducible rfl)
          (try simp only [Act.put, List.setIfInBounds_toArray, List.set_cons_zero, List.set_cons_succ])
          refine Tw_takeL (i := 32) (v := ?tv92) rfl (by kernel_rfl) (by decide) (by kernel_rfl) (by kernel_rfl) (fun _ _ _ h => h) (by rfl) ?ty92 ?tn92
          case ty92 => (intro w hSw; (try dsimp only at hSw); go_simp <;> with_reducible rfl)
          (try simp only [Act.put, List.setIfInBounds_toArray, List.set_cons_zero, List.set_cons_succ])
          refine Tw_takeL (i := 33) (v := ?tv93) rfl (by kernel_rfl) (by decide) (by kernel_rfl) (by kernel_rfl) (fun _ _ _ h => h) (by rfl) ?ty93 ?tn93
          case ty93 => (intro w hSw; (try dsimp only at hSw); go_simp <;> with_reducible rfl)
          (try simp only [Act.put, List.setIfInBounds_toArray, List.set_cons_zero, List.set_cons_succ])
          refine Tw_takeL (i := 34) (v := ?tv94) rfl (by kernel_rfl) (by decide) (by kernel_rfl) (by kernel_rfl) (fun _ _ _ h => h) (by rfl) ?ty94 ?tn94
          case ty94 => (intro w hSw; (try dsimp only at hSw); go_simp <;> with_reducible rfl)
          (try simp only [Act.put, List.setIfInBounds_toArray, List.set_cons_zero, List.set_cons_succ])
          refine Tw_takeL (i := 35) (v := ?tv95) rfl (by kernel_rfl) (by decide) (by kernel_rfl) (by kernel_rfl) (fun _ _ _ h => h) (by rfl) ?ty95 ?tn95
          case ty95 => (intro w hSw; (try dsimp only at hSw); go_simp <;> with_reducible rfl)
          (try simp only [Act.put, List.setIfInBounds_toArray, List.set_cons_zero, List.set_cons_succ])
          refine Tw_all (rs := [36]) (by kernel_rfl) (by simp) (by decide) (fun hHeld => ?_)
          refine AllT.consL rfl (fun K hK => ?_) AllT.nil
          go_simp
          (go_at_call 57; go_split_ands; (with_reducible refine (HL8.out _ (Fr.lies (Fr.lies HA.out FK.out) (by assumption))).mono ?_); rintro e w7 ⟨rfl, hb7⟩; have F4 := Fr.call (by assumption) hb7; clear hb7)
          refine hK.out _ _ ?_ ?_
          · (try dsimp only)
            ((go_split_ands; refine HALL.out _ ?_; (first | assumption | (repeat (first | assumption | refine Fr.new ?_ _ | refine Fr.drew ?_ | (refine Fr.set ?_ (by first | exact Nat.le_refl _ | omega | (simp; done) | (simp; omega)) (by first | (simp; done) | (simp; omega)) _))); done)))
          clear hK K
          (try simp only [Act.put, List.setIfInBounds_toArray, List.set_cons_zero, List.set_cons_succ])
          refine Tw_takeL (i := 37) (v := ?tv96) rfl (by kernel_rfl) (by decide) (by kernel_rfl) (by kernel_rfl) (fun _ _ _ h => h) (by rfl) ?ty96 ?tn96
          case ty96 => (intro w hSw; (try dsimp only at hSw); go_simp <;> with_reducible rfl)
          (try simp only [Act.put, List.setIfInBounds_toArray, List.set_cons_zero, List.set_cons_succ])
          refine Tw_takeL (i := 38) (v := ?tv97) rfl (by kernel_rfl) (by decide) (by kernel_rfl) (by kernel_rfl) (fun _ _ _ h => h) (by rfl) ?ty97 ?tn97
          case ty97 => (intro w hSw; (try dsimp only at hSw); go_simp <;> with_reducible rfl)
          (try simp only [Act.put, List.setIfInBounds_toArray, List.set_cons_zero, List.set_cons_succ])
          refine Tw_takeL (i := 39) (v := ?tv98) rfl (by kernel_rfl) (by decide) (by kernel_rfl) (by kernel_rfl) (fun _ _ _ h => h) (by rfl) ?ty98 ?tn98
          case ty98 => (intro w hSw; (try dsimp only at hSw); go_simp <;> with_reducible rfl)
          (try simp only [Act.put, List.setIfInBounds_toArray, List.set_cons_zero, List.set_cons_succ])
          refine Tw_end (by kernel_rfl) (fun hh => ?_)
          obtain ⟨F11, _⟩ := hh
          clear HALL
          go_wp2_with fail
          go_meet
          exact ⟨rfl, F11⟩
        case rest =>
        obtain ⟨wv, rfl⟩ : ∃ W, W = wc := ⟨_, rfl⟩
        obtain ⟨rfl, hx7⟩ := hcut
        have HF8 := Lib.hid (HF1.out.call hx7.bl)
        clear hx7 HF1
        go_wp2_with fail
        go_roundw
        case rel => exact ⟨k + 1, by omega, by go_num, HF8.out⟩
        case measure => simp [intOf] <;> omega
      · skip
        have hkz : decide ((0 : Int) < (k : Int)) = false := decide_eq_false (by omega)
        clear hst
        go_upto_region 7 with fail
        go_cut [68] from 28 to 68 (fun r W => r = .bool false ∧ Fr wu W [])
        case first =>
          go_quiet (fail)
          go_wp2_with fail
          go_meet
          exact ⟨rfl, (Fr.nil wu).call (below_drewN (Below.refl _ _) _)⟩
        case rest =>
        obtain ⟨wv, rfl⟩ : ∃ W, W = wc := ⟨_, rfl⟩
        obtain ⟨rfl, hx7⟩ := hcut
        have HF8 := Lib.hid (HF1.out.call hx7.bl)
        clear hx7 HF1
        go_wp2_with fail
        go_roundw
        case rel => exact ⟨k + 1, by omega, by go_num, HF8.out⟩
        case measure => simp [intOf] <;> omega
    · obtain rfl : k = N := by omega
      go_wp2_with fail
      go_ret2
      exact ⟨rfl, (F1.out.call HF1.out.bl).bl⟩

set_option maxHeartbeats 3200000 in
set_option maxRecDepth 100000 in
theorem refCheckSquares_hit (s : ByteArray) (ps : List Bp) (a : Addr) (c : Nat) (hok : OkT s ps) (b : Bs) (hb : OkS b) (l : List Int) (B : Option Addr) (d : Nat) (hln : l.length = ps.length + 1) (hq : ∀ k, 0 ≤ sqAt l k ∧ sqAt l k ≤ 20000000000) (n : Nat) (hn : n ≤ ps.length) (hmiss : ∀ j, j < n → badS ps b l j = false) (hhit : badS ps b l n = true) (w : World) (hA : Lies w w.heap.size (some a) (ps.flatMap pc)) (hL : Lies w w.heap.size B (ic l)) :
    Calls Try.prog 23 #[.agg #[.string s, .slice (some a) ps.length c], .agg #[.int .i64 b.brk, .int .i64 b.drag, .int .i64 b.drv], .slice B l.length d] w fun e w' => e = .returned (.tuple #[.int .i64 (n : Int), .int .i64 24]) ∧ Below w.heap.size w w' := by
  have F0 := Lib.hid (Fr.b2 w 24 #[.string s, .slice (some a) ps.length c] 26 #[.int .i64 b.brk, .int .i64 b.drag, .int .i64 b.drv])
  have HA := Lib.hid hA
  have HOK := Lib.hid hok
  have HB := Lib.hid hb
  have HQ := Lib.hid hq
  have HMISS := Lib.hid hmiss
  have HHIT := Lib.hid hhit
  have h12 := hok.n12
  have hl12 : (ps.length : Int) ≤ 12 := by omega
  have HLE : Hid (∀ k, k ≤ ps.length → ∀ W, Fr w W [] → ∃ a2, B = some a2 ∧ a2.block < w.heap.size ∧ W.cell? (a2.add k) = some (.int .i64 (sqAt l k))) := Lib.hid (fun k hk W hW => by
    obtain ⟨a2, e, h1, _⟩ := hL.num (sqAt_get (k := k) (by omega))
    obtain ⟨a3, e3, _, h3⟩ := (Fr.lies hL hW).num (sqAt_get (k := k) (by omega))
    rw [e] at e3
    injection e3 with e3
    subst e3
    exact ⟨a2, e, h1, h3⟩)
  obtain ⟨a2, ea2, _, _⟩ := HLE.out 0 (Nat.zero_le _) w (Fr.nil w)
  subst ea2
  have HLC : Hid (∀ k, k ≤ ps.length → ∀ W, Fr w W [] → W.cell? (a2.add k) = some (.int .i64 (sqAt l k))) := Lib.hid (fun k hk W hW => by
    obtain ⟨a3, e3, _, h3⟩ := HLE.out k hk W hW
    injection e3 with e3
    subst e3
    exact h3)
  rw [hln]
  obtain ⟨N, hN⟩ : ∃ N, N = ps.length + 1 := ⟨_, rfl⟩
  rw [← hN]
  have HNN := Lib.hid hN
  have y0 := (F0.out.get 1 rfl).cell 0
  have y1 := (F0.out.get 1 rfl).cell 1
  clear hN hA hL hq hok hb hln hmiss HLE hhit
  go_enter Try.func23, Try.ntmps23
  go_wp2_with fail
  refine (refLimitsAt_any s ps a c HOK.out.n0 HOK.out.n12 HOK.out.each _ (Fr.lies HA.out F0.out)).mono ?_
  rintro e w1 ⟨gl, rfl, hll, _, hb1⟩
  have HL1 := Lib.hid hll
  have F1 := Lib.hid (F0.out.call hb1)
  clear hll hb1 F0 y0 y1
  rw [listF_len, ← HNN.out]
  obtain ⟨aL, cL⟩ := gl
  obtain ⟨a4, ea, _, _⟩ := HL1.out.num (listF_at (n := ps.length + 1) (f := limV ps) (k := 0) (by omega))
  try simp only at ea
  subst ea
  go_wp2_with fail
  go_loopw [9] (fun i wr => ∃ k : Nat, k ≤ n ∧ i = .int .i64 k ∧ Fr w1 wr []) (fun i _ => N - (intOf i).toNat)
  case atStart => exact ⟨0, Nat.zero_le _, rfl, Fr.nil _⟩
  case round =>
    obtain ⟨k, hk, rfl, hf1⟩ := hrel
    have HF1 := Lib.hid hf1
    have FT := Lib.hid (F1.out.call hf1.bl)
    have t0 := (FT.out.get 1 rfl).cell 0
    have t1 := (FT.out.get 1 rfl).cell 1
    have t2 := (FT.out.get 1 rfl).lt
    clear hf1
    by_cases hk2 : k < n
    · skip
      have hkN : k < N := by have := HNN.out; omega
      have hkn : k ≤ ps.length := by have := HNN.out; omega
      have hki : (k : Int) < (N : Int) := by omega
      obtain ⟨x, hx⟩ : ∃ x, sqAt l k = x := ⟨_, rfl⟩
      obtain ⟨m, hm⟩ : ∃ m, limV ps k = m := ⟨_, rfl⟩
      have HXX := Lib.hid hx
      have HMM := Lib.hid hm
      have cx := HLC.out k hkn wr FT.out.tail.tail
      have cm := list_cell2 (k := k) (Lies.call HL1.out HF1.out.bl) (by omega)
      rw [hx] at cx
      rw [hm] at cm
      have hqx := HQ.out k
      rw [hx] at hqx
      have hwk := IntWalk.i64_in ((k : Int) + 1) (by omega)
      clear hx hm
      have hgd := bad_no.1 (HMISS.out k (by omega))
      rw [HXX.out, HMM.out] at hgd
      obtain ⟨hlm, hst⟩ := hgd
      have hlm2 : decide (m < x) = false := decide_eq_false hlm
      go_upto_region 5 with fail
      go_cut [26] from 18 to 26 (fun r W => r = .bool false ∧ Fr wr W [])
      case first =>
        go_quiet (fail)
        go_wp2_with fail
        go_meet
        exact ⟨rfl, (Fr.nil wr).call (below_drewN (Below.refl _ _) _)⟩
      case rest =>
      obtain ⟨wu, rfl⟩ : ∃ W, W = wc := ⟨_, rfl⟩
      obtain ⟨rfl, hx5⟩ := hcut
      have FK := Lib.hid (FT.out.call hx5.bl)
      have HF1 := Lib.hid (HF1.out.call hx5.bl)
      have t0 := (FK.out.get 1 rfl).cell 0
      have t1 := (FK.out.get 1 rfl).cell 1
      have t2 := (FK.out.get 1 rfl).lt
      have cx := HLC.out k hkn wu FK.out.tail.tail
      rw [HXX.out] at cx
      clear hx5 FT cm
      by_cases hk0 : 0 < k
      · skip
        have hst := hst hk0
        rw [← HXX.out] at hst
        obtain ⟨j, hj⟩ : ∃ j : Nat, j = k - 1 := ⟨_, rfl⟩
        have hwj := (IntWalk.i64_in ((k : Int) - 1) (by omega)).trans (show (k : Int) - 1 = (j : Int) by omega)
        have hj0 : (j : Int) < (N : Int) := by omega
        have hjn : j < ps.length := by omega
        have HJJ := Lib.hid hj
        obtain ⟨y, hy⟩ : ∃ y, sqAt l j = y := ⟨_, rfl⟩
        have HYY := Lib.hid hy
        have cy := HLC.out j (by omega) wu FK.out.tail.tail
        rw [hy] at cy
        have hqy := HQ.out j
        rw [hy] at hqy
        have hdb : -3000 ≤ -b.drv ∧ -b.drv ≤ 3000 := by have := HB.out.v0; have := HB.out.v1; omega
        have hdk : -3000 ≤ b.brk ∧ b.brk ≤ 3000 := by have := HB.out.b0; have := HB.out.b1; omega
        have hb7 := lossV_bound (gp_ok HOK.out.each j) hdb
        have hb8 := lossV_bound (gp_ok HOK.out.each j) hdk
        have HL7 := Lib.hid (fun W hW => loses_any s ps a c HOK.out.n12 HOK.out.each j hjn (-b.drv) hdb W hW)
        have HL8 := Lib.hid (fun W hW => loses_any s ps a c HOK.out.n12 HOK.out.each j hjn b.brk hdk W hW)
        have hwn := IntWalk.i64_in (-b.drv) (by omega)
        rw [HXX.out, ← hj, hy] at hst
        obtain ⟨l7, hl7⟩ : ∃ l7, lossV (gp ps j) (-b.drv) = l7 := ⟨_, rfl⟩
        obtain ⟨l8, hl8⟩ : ∃ l8, lossV (gp ps j) b.brk = l8 := ⟨_, rfl⟩
        rw [hl7] at HL7 hb7
        rw [hl8] at HL8 hb8
        rw [hl7, hl8] at hst
        have hw7 := IntWalk.i64_in (y - l7) (by omega)
        have hw8 := IntWalk.i64_in (y - l8) (by omega)
        have hkp : decide ((0 : Int) < (k : Int)) = true := decide_eq_true (by omega)
        have hc7 : decide (y - l7 < x) = false := decide_eq_false (by omega)
        have hc8 : decide (x < y - l8) = false := decide_eq_false (by omega)
        clear hy hj hl7 hl8 hst hb7 hb8 hqy hqx hdb hdk
        go_upto_region 7 with fail
        go_cut [68] from 28 to 68 (fun r W => r = .bool false ∧ Fr wu W [])
        case first =>
          have HALL : Hid (∀ W, Fr wu W [] → Fr wu W [] ∧ W.cell? ⟨w.heap.size, 0, none⟩ = some (.string s) ∧ W.cell? ⟨w.heap.size, 1, none⟩ = some (.slice (some a) ps.length c) ∧ W.cell? ⟨w.heap.size + 1, 0, none⟩ = some (.int .i64 b.brk) ∧ W.cell? ⟨w.heap.size + 1, 2, none⟩ = some (.int .i64 b.drv) ∧ W.cell? (a2.add k) = some (.int .i64 x) ∧ W.cell? (a2.add j) = some (.int .i64 y)) := Lib.hid (fun W hW => ⟨hW, ((FK.out.get 1 rfl).call hW.bl).cell 0, ((FK.out.get 1 rfl).call hW.bl).cell 1, ((FK.out.get 0 rfl).call hW.bl).cell 0, ((FK.out.get 0 rfl).call hW.bl).cell 2, by rw [← HXX.out]; exact HLC.out k hkn _ (FK.out.tail.tail.call hW.bl), by rw [← HYY.out]; exact HLC.out j (by omega) _ (FK.out.tail.tail.call hW.bl)⟩)
          have F10 : Fr wu _ [] := Fr.nil wu
          refine Tw_start 40 (fun W => Fr wu W [] ∧ W.cell? ⟨w.heap.size, 0, none⟩ = some (.string s) ∧ W.cell? ⟨w.heap.size, 1, none⟩ = some (.slice (some a) ps.length c) ∧ W.cell? ⟨w.heap.size + 1, 0, none⟩ = some (.int .i64 b.brk) ∧ W.cell? ⟨w.heap.size + 1, 2, none⟩ = some (.int .i64 b.drv) ∧ W.cell? (a2.add k) = some (.int .i64 x) ∧ W.cell? (a2.add j) = some (.int .i64 y)) (by kernel_rfl) (by kernel_rfl) rfl ?_ ?_
          · (try dsimp only)
            ((go_split_ands; refine HALL.out _ ?_; (first | assumption | (repeat (first | assumption | refine Fr.new ?_ _ | refine Fr.drew ?_ | (refine Fr.set ?_ (by first | exact Nat.le_refl _ | omega | (simp; done) | (simp; omega)) (by first | (simp; done) | (simp; omega)) _))); done)))
          refine Tw_abs ?_
          intro wD hD
          clear hD
          refine Tw_takeL (i := 0) (v := ?tv99) rfl (by kernel_rfl) (by decide) (by kernel_rfl) (by kernel_rfl) (fun _ _ _ h => h) (by rfl) ?ty99 ?tn99
          case ty99 => (intro w hSw; (try dsimp only at hSw); go_simp <;> with_reducible rfl)
          (try simp only [Act.put, List.setIfInBounds_toArray, List.set_cons_zero, List.set_cons_succ])
          refine Tw_takeL (i := 1) (v := ?tv100) rfl (by kernel_rfl) (by decide) (by kernel_rfl) (by kernel_rfl) (fun _ _ _ h => h) (by rfl) ?ty100 ?tn100
          case ty100 => (intro w hSw; (try dsimp only at hSw); go_simp <;> with_reducible rfl)
          (try simp only [Act.put, List.setIfInBounds_toArray, List.set_cons_zero, List.set_cons_succ])
          refine Tw_takeL (i := 2) (v := ?tv101) rfl (by kernel_rfl) (by decide) (by kernel_rfl) (by kernel_rfl) (fun _ _ _ h => h) (by rfl) ?ty101 ?tn101
          case ty101 => (intro w hSw; (try dsimp only at hSw); go_simp <;> with_reducible rfl)
          (try simp only [Act.put, List.setIfInBounds_toArray, List.set_cons_zero, List.set_cons_succ])
          refine Tw_takeL (i := 3) (v := ?tv102) rfl (by kernel_rfl) (by decide) (by kernel_rfl) (by kernel_rfl) (fun _ _ _ h => h) (by rfl) ?ty102 ?tn102
          case ty102 => (intro w hSw; (try dsimp only at hSw); go_simp <;> with_reducible rfl)
          (try simp only [Act.put, List.setIfInBounds_toArray, List.set_cons_zero, List.set_cons_succ])
          refine Tw_takeL (i := 4) (v := ?tv103) rfl (by kernel_rfl) (by decide) (by kernel_rfl) (by kernel_rfl) (fun _ _ _ h => h) (by rfl) ?ty103 ?tn103
          case ty103 => (intro w hSw; (try dsimp only at hSw); go_simp <;> with_reducible rfl)
          (try simp only [Act.put, List.setIfInBounds_toArray, List.set_cons_zero, List.set_cons_succ])
          refine Tw_takeL (i := 5) (v := ?tv104) rfl (by kernel_rfl) (by decide) (by kernel_rfl) (by kernel_rfl) (fun _ _ _ h => h) (by rfl) ?ty104 ?tn104
          case ty104 => (intro w hSw; (try dsimp only at hSw); go_simp <;> with_reducible rfl)
          (try simp only [Act.put, List.setIfInBounds_toArray, List.set_cons_zero, List.set_cons_succ])
          refine Tw_takeL (i := 6) (v := ?tv105) rfl (by kernel_rfl) (by decide) (by kernel_rfl) (by kernel_rfl) (fun _ _ _ h => h) (by rfl) ?ty105 ?tn105
          case ty105 => (intro w hSw; (try dsimp only at hSw); go_simp <;> with_reducible rfl)
          (try simp only [Act.put, List.setIfInBounds_toArray, List.set_cons_zero, List.set_cons_succ])
          refine Tw_takeL (i := 7) (v := ?tv106) rfl (by kernel_rfl) (by decide) (by kernel_rfl) (by kernel_rfl) (fun _ _ _ h => h) (by rfl) ?ty106 ?tn106
          case ty106 => (intro w hSw; (try dsimp only at hSw); go_simp <;> with_reducible rfl)
          (try simp only [Act.put, List.setIfInBounds_toArray, List.set_cons_zero, List.set_cons_succ])
          refine Tw_takeL (i := 8) (v := ?tv107) rfl (by kernel_rfl) (by decide) (by kernel_rfl) (by kernel_rfl) (fun _ _ _ h => h) (by rfl) ?ty107 ?tn107
          case ty107 => (intro w hSw; (try dsimp only at hSw); go_simp <;> with_reducible rfl)
          (try simp only [Act.put, List.setIfInBounds_toArray, List.set_cons_zero, List.set_cons_succ])
          refine Tw_takeL (i := 9) (v := ?tv108) rfl (by kernel_rfl) (by decide) (by kernel_rfl) (by kernel_rfl) (fun _ _ _ h => h) (by rfl) ?ty108 ?tn108
          case ty108 => (intro w hSw; (try dsimp only at hSw); go_simp <;> with_reducible rfl)
          (try simp only [Act.put, List.setIfInBounds_toArray, List.set_cons_zero, List.set_cons_succ])
          refine Tw_takeL (i := 10) (v := ?tv109) rfl (by kernel_rfl) (by decide) (by kernel_rfl) (by kernel_rfl) (fun _ _ _ h => h) (by rfl) ?ty109 ?tn109
          case ty109 => (intro w hSw; (try dsimp only at hSw); go_simp <;> with_reducible rfl)
          (try simp only [Act.put, List.setIfInBounds_toArray, List.set_cons_zero, List.set_cons_succ])
          refine Tw_takeL (i := 11) (v := ?tv110) rfl (by kernel_rfl) (by decide) (by kernel_rfl) (by kernel_rfl) (fun _ _ _ h => h) (by rfl) ?ty110 ?tn110
          case ty110 => (intro w hSw; (try dsimp only at hSw); go_simp <;> with_reducible rfl)
          (try simp only [Act.put, List.setIfInBounds_toArray, List.set_cons_zero, List.set_cons_succ])
          refine Tw_takeL (i := 12) (v := ?tv111) rfl (by kernel_rfl) (by decide) (by kernel_rfl) (by kernel_rfl) (fun _ _ _ h => h) (by rfl) ?ty111 ?tn111
          case ty111 => (intro w hSw; (try dsimp only at hSw); go_simp <;> with_reducible rfl)
          (try simp only [Act.put, List.setIfInBounds_toArray, List.set_cons_zero, List.set_cons_succ])
          refine Tw_takeL (i := 13) (v := ?tv112) rfl (by kernel_rfl) (by decide) (by kernel_rfl) (by kernel_rfl) (fun _ _ _ h => h) (by rfl) ?ty112 ?tn112
          case ty112 => (intro w hSw; (try dsimp only at hSw); go_simp <;> with_reducible rfl)
          (try simp only [Act.put, List.setIfInBounds_toArray, List.set_cons_zero, List.set_cons_succ])
          refine Tw_takeL (i := 14) (v := ?tv113) rfl (by kernel_rfl) (by decide) (by kernel_rfl) (by kernel_rfl) (fun _ _ _ h => h) (by rfl) ?ty113 ?tn113
          case ty113 => (intro w hSw; (try dsimp only at hSw); go_simp <;> with_reducible rfl)
          (try simp only [Act.put, List.setIfInBounds_toArray, List.set_cons_zero, List.set_cons_succ])
          refine Tw_takeL (i := 15) (v := ?tv114) rfl (by kernel_rfl) (by decide) (by kernel_rfl) (by kernel_rfl) (fun _ _ _ h => h) (by rfl) ?ty114 ?tn114
          case ty114 => (intro w hSw; (try dsimp only at hSw); go_simp <;> with_reducible rfl)
          (try simp only [Act.put, List.setIfInBounds_toArray, List.set_cons_zero, List.set_cons_succ])
          refine Tw_takeL (i := 16) (v := ?tv115) rfl (by kernel_rfl) (by decide) (by kernel_rfl) (by kernel_rfl) (fun _ _ _ h => h) (by rfl) ?ty115 ?tn115
          case ty115 => (intro w hSw; (try dsimp only at hSw); go_simp <;> with_reducible rfl)
          (try simp only [Act.put, List.setIfInBounds_toArray, List.set_cons_zero, List.set_cons_succ])
          refine Tw_takeL (i := 17) (v := ?tv116) rfl (by kernel_rfl) (by decide) (by kernel_rfl) (by kernel_rfl) (fun _ _ _ h => h) (by rfl) ?ty116 ?tn116
          case ty116 => (intro w hSw; (try dsimp only at hSw); go_simp <;> with_reducible rfl)
          (try simp only [Act.put, List.setIfInBounds_toArray, List.set_cons_zero, List.set_cons_succ])
          refine Tw_all (rs := [18]) (by kernel_rfl) (by simp) (by decide) (fun hHeld => ?_)
          refine AllT.consL rfl (fun K hK => ?_) AllT.nil
          go_simp
          (go_at_call 57; go_split_ands; (with_reducible refine (HL7.out _ (Fr.lies (Fr.lies HA.out FK.out) (by assumption))).mono ?_); rintro e w7 ⟨rfl, hb7⟩; have F4 := Fr.call (by assumption) hb7; clear hb7)
          refine hK.out _ _ ?_ ?_
          · (try dsimp only)
            ((go_split_ands; refine HALL.out _ ?_; (first | assumption | (repeat (first | assumption | refine Fr.new ?_ _ | refine Fr.drew ?_ | (refine Fr.set ?_ (by first | exact Nat.le_refl _ | omega | (simp; done) | (simp; omega)) (by first | (simp; done) | (simp; omega)) _))); done)))
          clear hK K
          (try simp only [Act.put, List.setIfInBounds_toArray, List.set_cons_zero, List.set_cons_succ])
          refine Tw_takeL (i := 19) (v := ?tv117) rfl (by kernel_rfl) (by decide) (by kernel_rfl) (by kernel_rfl) (fun _ _ _ h => h) (by rfl) ?ty117 ?tn117
          case ty117 => (intro w hSw; (try dsimp only at hSw); go_simp <;> with_reducible rfl)
          (try simp only [Act.put, List.setIfInBounds_toArray, List.set_cons_zero, List.set_cons_succ])
          refine Tw_takeL (i := 20) (v := ?tv118) rfl (by kernel_rfl) (by decide) (by kernel_rfl) (by kernel_rfl) (fun _ _ _ h => h) (by rfl) ?ty118 ?tn118
          case ty118 => (intro w hSw; (try dsimp only at hSw); go_simp <;> with_reducible rfl)
          (try simp only [Act.put, List.setIfInBounds_toArray, List.set_cons_zero, List.set_cons_succ])
          refine Tw_takeL (i := 21) (v := ?tv119) rfl (by kernel_rfl) (by decide) (by kernel_rfl) (by kernel_rfl) (fun _ _ _ h => h) (by rfl) ?ty119 ?tn119
          case ty119 => (intro w hSw; (try dsimp only at hSw); go_simp <;> with_reducible rfl)
          (try simp only [Act.put, List.setIfInBounds_toArray, List.set_cons_zero, List.set_cons_succ])
          refine Tw_takeL (i := 22) (v := ?tv120) rfl (by kernel_rfl) (by decide) (by kernel_rfl) (by kernel_rfl) (fun _ _ _ h => h) (by rfl) ?ty120 ?tn120
          case ty120 => (intro w hSw; (try dsimp only at hSw); go_simp <;> with_reducible rfl)
          (try simp only [Act.put, List.setIfInBounds_toArray, List.set_cons_zero, List.set_cons_succ])
          refine Tw_takeL (i := 23) (v := ?tv121) rfl (by kernel_rfl) (by decide) (by kernel_rfl) (by kernel_rfl) (fun _ _ _ h => h) (by rfl) ?ty121 ?tn121
          case ty121 => (intro w hSw; (try dsimp only at hSw); go_simp <;> with_reducible rfl)
          (try simp only [Act.put, List.setIfInBounds_toArray, List.set_cons_zero, List.set_cons_succ])
          refine Tw_takeL (i := 24) (v := ?tv122) rfl (by kernel_rfl) (by decide) (by kernel_rfl) (by kernel_rfl) (fun _ _ _ h => h) (by rfl) ?ty122 ?tn122
          case ty122 => (intro w hSw; (try dsimp only at hSw); go_simp <;> with_reducible rfl)
          (try simp only [Act.put, List.setIfInBounds_toArray, List.set_cons_zero, List.set_cons_succ])
          refine Tw_takeL (i := 25) (v := ?tv123) rfl (by kernel_rfl) (by decide) (by kernel_rfl) (by kernel_rfl) (fun _ _ _ h => h) (by rfl) ?ty123 ?tn123
          case ty123 => (intro w hSw; (try dsimp only at hSw); go_simp <;> with_reducible rfl)
          (try simp only [Act.put, List.setIfInBounds_toArray, List.set_cons_zero, List.set_cons_succ])
          refine Tw_takeL (i := 26) (v := ?tv124) rfl (by kernel_rfl) (by decide) (by kernel_rfl) (by kernel_rfl) (fun _ _ _ h => h) (by rfl) ?ty124 ?tn124
          case ty124 => (intro w hSw; (try dsimp only at hSw); go_simp <;> with_reducible rfl)
          (try simp only [Act.put, List.setIfInBounds_toArray, List.set_cons_zero, List.set_cons_succ])
          refine Tw_takeL (i := 27) (v := ?tv125) rfl (by kernel_rfl) (by decide) (by kernel_rfl) (by kernel_rfl) (fun _ _ _ h => h) (by rfl) ?ty125 ?tn125
          case ty125 => (intro w hSw; (try dsimp only at hSw); go_simp <;> with_reducible rfl)
          (try simp only [Act.put, List.setIfInBounds_toArray, List.set_cons_zero, List.set_cons_succ])
          refine Tw_takeL (i := 28) (v := ?tv126) rfl (by kernel_rfl) (by decide) (by kernel_rfl) (by kernel_rfl) (fun _ _ _ h => h) (by rfl) ?ty126 ?tn126
          case ty126 => (intro w hSw; (try dsimp only at hSw); go_simp <;> with_reducible rfl)
          (try simp only [Act.put, List.setIfInBounds_toArray, List.set_cons_zero, List.set_cons_succ])
          refine Tw_takeL (i := 29) (v := ?tv127) rfl (by kernel_rfl) (by decide) (by kernel_rfl) (by kernel_rfl) (fun _ _ _ h => h) (by rfl) ?ty127 ?tn127
          case ty127 => (intro w hSw; (try dsimp only at hSw); go_simp <;> with_reducible rfl)
          (try simp only [Act.put, List.setIfInBounds_toArray, List.set_cons_zero, List.set_cons_succ])
          refine Tw_takeL (i := 30) (v := ?tv128) rfl (by kernel_rfl) (by decide) (by kernel_rfl) (by kernel_rfl) (fun _ _ _ h => h) (by rfl) ?ty128 ?tn128
          case ty128 => (intro w hSw; (try dsimp only at hSw); go_simp <;> with_reducible rfl)
          (try simp only [Act.put, List.setIfInBounds_toArray, List.set_cons_zero, List.set_cons_succ])
          refine Tw_takeL (i := 31) (v := ?tv129) rfl (by kernel_rfl) (by decide) (by kernel_rfl) (by kernel_rfl) (fun _ _ _ h => h) (by rfl) ?ty129 ?tn129
          case ty129 => (intro w hSw; (try dsimp only at hSw); go_simp <;> with_reducible rfl)
          (try simp only [Act.put, List.setIfInBounds_toArray, List.set_cons_zero, List.set_cons_succ])
          refine Tw_takeL (i := 32) (v := ?tv130) rfl (by kernel_rfl) (by decide) (by kernel_rfl) (by kernel_rfl) (fun _ _ _ h => h) (by rfl) ?ty130 ?tn130
          case ty130 => (intro w hSw; (try dsimp only at hSw); go_simp <;> with_reducible rfl)
          (try simp only [Act.put, List.setIfInBounds_toArray, List.set_cons_zero, List.set_cons_succ])
          refine Tw_takeL (i := 33) (v := ?tv131) rfl (by kernel_rfl) (by decide) (by kernel_rfl) (by kernel_rfl) (fun _ _ _ h => h) (by rfl) ?ty131 ?tn131
          case ty131 => (intro w hSw; (try dsimp only at hSw); go_simp <;> with_reducible rfl)
          (try simp only [Act.put, List.setIfInBounds_toArray, List.set_cons_zero, List.set_cons_succ])
          refine Tw_takeL (i := 34) (v := ?tv132) rfl (by kernel_rfl) (by decide) (by kernel_rfl) (by kernel_rfl) (fun _ _ _ h => h) (by rfl) ?ty132 ?tn132
          case ty132 => (intro w hSw; (try dsimp only at hSw); go_simp <;> with_reducible rfl)
          (try simp only [Act.put, List.setIfInBounds_toArray, List.set_cons_zero, List.set_cons_succ])
          refine Tw_takeL (i := 35) (v := ?tv133) rfl (by kernel_rfl) (by decide) (by kernel_rfl) (by kernel_rfl) (fun _ _ _ h => h) (by rfl) ?ty133 ?tn133
          case ty133 => (intro w hSw; (try dsimp only at hSw); go_simp <;> with_reducible rfl)
          (try simp only [Act.put, List.setIfInBounds_toArray, List.set_cons_zero, List.set_cons_succ])
          refine Tw_all (rs := [36]) (by kernel_rfl) (by simp) (by decide) (fun hHeld => ?_)
          refine AllT.consL rfl (fun K hK => ?_) AllT.nil
          go_simp
          (go_at_call 57; go_split_ands; (with_reducible refine (HL8.out _ (Fr.lies (Fr.lies HA.out FK.out) (by assumption))).mono ?_); rintro e w7 ⟨rfl, hb7⟩; have F4 := Fr.call (by assumption) hb7; clear hb7)
          refine hK.out _ _ ?_ ?_
          · (try dsimp only)
            ((go_split_ands; refine HALL.out _ ?_; (first | assumption | (repeat (first | assumption | refine Fr.new ?_ _ | refine Fr.drew ?_ | (refine Fr.set ?_ (by first | exact Nat.le_refl _ | omega | (simp; done) | (simp; omega)) (by first | (simp; done) | (simp; omega)) _))); done)))
          clear hK K
          (try simp only [Act.put, List.setIfInBounds_toArray, List.set_cons_zero, List.set_cons_succ])
          refine Tw_takeL (i := 37) (v := ?tv134) rfl (by kernel_rfl) (by decide) (by kernel_rfl) (by kernel_rfl) (fun _ _ _ h => h) (by rfl) ?ty134 ?tn134
          case ty134 => (intro w hSw; (try dsimp only at hSw); go_simp <;> with_reducible rfl)
          (try simp only [Act.put, List.setIfInBounds_toArray, List.set_cons_zero, List.set_cons_succ])
          refine Tw_takeL (i := 38) (v := ?tv135) rfl (by kernel_rfl) (by decide) (by kernel_rfl) (by kernel_rfl) (fun _ _ _ h => h) (by rfl) ?ty135 ?tn135
          case ty135 => (intro w hSw; (try dsimp only at hSw); go_simp <;> with_reducible rfl)
          (try simp only [Act.put, List.setIfInBounds_toArray, List.set_cons_zero, List.set_cons_succ])
          refine Tw_takeL (i := 39) (v := ?tv136) rfl (by kernel_rfl) (by decide) (by kernel_rfl) (by kernel_rfl) (fun _ _ _ h => h) (by rfl) ?ty136 ?tn136
          case ty136 => (intro w hSw; (try dsimp only at hSw); go_simp <;> with_reducible rfl)
          (try simp only [Act.put, List.setIfInBounds_toArray, List.set_cons_zero, List.set_cons_succ])
          refine Tw_end (by kernel_rfl) (fun hh => ?_)
          obtain ⟨F11, _⟩ := hh
          clear HALL
          go_wp2_with fail
          go_meet
          exact ⟨rfl, F11⟩
        case rest =>
        obtain ⟨wv, rfl⟩ : ∃ W, W = wc := ⟨_, rfl⟩
        obtain ⟨rfl, hx7⟩ := hcut
        have HF8 := Lib.hid (HF1.out.call hx7.bl)
        clear hx7 HF1
        go_wp2_with fail
        go_roundw
        case rel => exact ⟨k + 1, by omega, by go_num, HF8.out⟩
        case measure => simp [intOf] <;> omega
      · skip
        have hkz : decide ((0 : Int) < (k : Int)) = false := decide_eq_false (by omega)
        clear hst
        go_upto_region 7 with fail
        go_cut [68] from 28 to 68 (fun r W => r = .bool false ∧ Fr wu W [])
        case first =>
          go_quiet (fail)
          go_wp2_with fail
          go_meet
          exact ⟨rfl, (Fr.nil wu).call (below_drewN (Below.refl _ _) _)⟩
        case rest =>
        obtain ⟨wv, rfl⟩ : ∃ W, W = wc := ⟨_, rfl⟩
        obtain ⟨rfl, hx7⟩ := hcut
        have HF8 := Lib.hid (HF1.out.call hx7.bl)
        clear hx7 HF1
        go_wp2_with fail
        go_roundw
        case rel => exact ⟨k + 1, by omega, by go_num, HF8.out⟩
        case measure => simp [intOf] <;> omega
    · obtain rfl : k = n := by omega
      have hkN : k < N := by have := HNN.out; omega
      have hkn : k ≤ ps.length := by have := HNN.out; omega
      have hki : (k : Int) < (N : Int) := by omega
      obtain ⟨x, hx⟩ : ∃ x, sqAt l k = x := ⟨_, rfl⟩
      obtain ⟨m, hm⟩ : ∃ m, limV ps k = m := ⟨_, rfl⟩
      have HXX := Lib.hid hx
      have HMM := Lib.hid hm
      have cx := HLC.out k hkn wr FT.out.tail.tail
      have cm := list_cell2 (k := k) (Lies.call HL1.out HF1.out.bl) (by omega)
      rw [hx] at cx
      rw [hm] at cm
      have hqx := HQ.out k
      rw [hx] at hqx
      have hwk := IntWalk.i64_in ((k : Int) + 1) (by omega)
      clear hx hm
      have hgd := mt bad_no.2 (by rw [HHIT.out]; decide)
      rw [HXX.out, HMM.out] at hgd
      by_cases hlm : m < x
      · skip
        have hlm2 : decide (m < x) = true := decide_eq_true hlm
        clear hgd
        go_upto_region 5 with fail
        go_cut [26] from 18 to 26 (fun r W => r = .bool true ∧ Fr wr W [])
        case first =>
          go_quiet (fail)
          go_wp2_with fail
          go_meet
          exact ⟨rfl, (Fr.nil wr).call (below_drewN (Below.refl _ _) _)⟩
        case rest =>
        obtain ⟨wu, rfl⟩ : ∃ W, W = wc := ⟨_, rfl⟩
        obtain ⟨rfl, hx5⟩ := hcut
        have FK := Lib.hid (FT.out.call hx5.bl)
        have HF1 := Lib.hid (HF1.out.call hx5.bl)
        have t0 := (FK.out.get 1 rfl).cell 0
        have t1 := (FK.out.get 1 rfl).cell 1
        have t2 := (FK.out.get 1 rfl).lt
        have cx := HLC.out k hkn wu FK.out.tail.tail
        rw [HXX.out] at cx
        clear hx5 FT cm
        go_wp2_with fail
        go_ret2
        exact ⟨rfl, (F1.out.call HF1.out.bl).bl⟩
      · skip
        have hlm2 : decide (m < x) = false := decide_eq_false hlm
        have hk0 : 0 < k := Decidable.by_contra fun h => hgd ⟨hlm, fun h2 => absurd h2 h⟩
        have hst : ¬ (sqAt l (k - 1) - lossV (gp ps (k - 1)) b.brk ≤ sqAt l k ∧ sqAt l k ≤ sqAt l (k - 1) - lossV (gp ps (k - 1)) (-b.drv)) := fun h => hgd ⟨hlm, fun _ => by rw [HXX.out] at h; exact h⟩
        clear hgd
        go_upto_region 5 with fail
        go_cut [26] from 18 to 26 (fun r W => r = .bool false ∧ Fr wr W [])
        case first =>
          go_quiet (fail)
          go_wp2_with fail
          go_meet
          exact ⟨rfl, (Fr.nil wr).call (below_drewN (Below.refl _ _) _)⟩
        case rest =>
        obtain ⟨wu, rfl⟩ : ∃ W, W = wc := ⟨_, rfl⟩
        obtain ⟨rfl, hx5⟩ := hcut
        have FK := Lib.hid (FT.out.call hx5.bl)
        have HF1 := Lib.hid (HF1.out.call hx5.bl)
        have t0 := (FK.out.get 1 rfl).cell 0
        have t1 := (FK.out.get 1 rfl).cell 1
        have t2 := (FK.out.get 1 rfl).lt
        have cx := HLC.out k hkn wu FK.out.tail.tail
        rw [HXX.out] at cx
        clear hx5 FT cm
        obtain ⟨j, hj⟩ : ∃ j : Nat, j = k - 1 := ⟨_, rfl⟩
        have hwj := (IntWalk.i64_in ((k : Int) - 1) (by omega)).trans (show (k : Int) - 1 = (j : Int) by omega)
        have hj0 : (j : Int) < (N : Int) := by omega
        have hjn : j < ps.length := by omega
        have HJJ := Lib.hid hj
        obtain ⟨y, hy⟩ : ∃ y, sqAt l j = y := ⟨_, rfl⟩
        have HYY := Lib.hid hy
        have cy := HLC.out j (by omega) wu FK.out.tail.tail
        rw [hy] at cy
        have hqy := HQ.out j
        rw [hy] at hqy
        have hdb : -3000 ≤ -b.drv ∧ -b.drv ≤ 3000 := by have := HB.out.v0; have := HB.out.v1; omega
        have hdk : -3000 ≤ b.brk ∧ b.brk ≤ 3000 := by have := HB.out.b0; have := HB.out.b1; omega
        have hb7 := lossV_bound (gp_ok HOK.out.each j) hdb
        have hb8 := lossV_bound (gp_ok HOK.out.each j) hdk
        have HL7 := Lib.hid (fun W hW => loses_any s ps a c HOK.out.n12 HOK.out.each j hjn (-b.drv) hdb W hW)
        have HL8 := Lib.hid (fun W hW => loses_any s ps a c HOK.out.n12 HOK.out.each j hjn b.brk hdk W hW)
        have hwn := IntWalk.i64_in (-b.drv) (by omega)
        rw [HXX.out, ← hj, hy] at hst
        obtain ⟨l7, hl7⟩ : ∃ l7, lossV (gp ps j) (-b.drv) = l7 := ⟨_, rfl⟩
        obtain ⟨l8, hl8⟩ : ∃ l8, lossV (gp ps j) b.brk = l8 := ⟨_, rfl⟩
        rw [hl7] at HL7 hb7
        rw [hl8] at HL8 hb8
        rw [hl7, hl8] at hst
        have hw7 := IntWalk.i64_in (y - l7) (by omega)
        have hw8 := IntWalk.i64_in (y - l8) (by omega)
        have hkp : decide ((0 : Int) < (k : Int)) = true := decide_eq_true (by omega)
        by_cases h7 : y - l7 < x
        · skip
          have hc7 : decide (y - l7 < x) = true := decide_eq_true h7
          clear hy hj hl7 hl8 hst hb7 hb8 hqy hqx hdb hdk
          go_upto_region 7 with fail
          go_cut [68] from 28 to 68 (fun r W => r = .bool true ∧ Fr wu W [])
          case first =>
            have HALL : Hid (∀ W, Fr wu W [] → Fr wu W [] ∧ W.cell? ⟨w.heap.size, 0, none⟩ = some (.string s) ∧ W.cell? ⟨w.heap.size, 1, none⟩ = some (.slice (some a) ps.length c) ∧ W.cell? ⟨w.heap.size + 1, 0, none⟩ = some (.int .i64 b.brk) ∧ W.cell? ⟨w.heap.size + 1, 2, none⟩ = some (.int .i64 b.drv) ∧ W.cell? (a2.add k) = some (.int .i64 x) ∧ W.cell? (a2.add j) = some (.int .i64 y)) := Lib.hid (fun W hW => ⟨hW, ((FK.out.get 1 rfl).call hW.bl).cell 0, ((FK.out.get 1 rfl).call hW.bl).cell 1, ((FK.out.get 0 rfl).call hW.bl).cell 0, ((FK.out.get 0 rfl).call hW.bl).cell 2, by rw [← HXX.out]; exact HLC.out k hkn _ (FK.out.tail.tail.call hW.bl), by rw [← HYY.out]; exact HLC.out j (by omega) _ (FK.out.tail.tail.call hW.bl)⟩)
            have F10 : Fr wu _ [] := Fr.nil wu
            refine Tw_start 40 (fun W => Fr wu W [] ∧ W.cell? ⟨w.heap.size, 0, none⟩ = some (.string s) ∧ W.cell? ⟨w.heap.size, 1, none⟩ = some (.slice (some a) ps.length c) ∧ W.cell? ⟨w.heap.size + 1, 0, none⟩ = some (.int .i64 b.brk) ∧ W.cell? ⟨w.heap.size + 1, 2, none⟩ = some (.int .i64 b.drv) ∧ W.cell? (a2.add k) = some (.int .i64 x) ∧ W.cell? (a2.add j) = some (.int .i64 y)) (by kernel_rfl) (by kernel_rfl) rfl ?_ ?_
            · (try dsimp only)
              ((go_split_ands; refine HALL.out _ ?_; (first | assumption | (repeat (first | assumption | refine Fr.new ?_ _ | refine Fr.drew ?_ | (refine Fr.set ?_ (by first | exact Nat.le_refl _ | omega | (simp; done) | (simp; omega)) (by first | (simp; done) | (simp; omega)) _))); done)))
            refine Tw_abs ?_
            intro wD hD
            clear hD
            refine Tw_takeL (i := 0) (v := ?tv137) rfl (by kernel_rfl) (by decide) (by kernel_rfl) (by kernel_rfl) (fun _ _ _ h => h) (by rfl) ?ty137 ?tn137
            case ty137 => (intro w hSw; (try dsimp only at hSw); go_simp <;> with_reducible rfl)
            (try simp only [Act.put, List.setIfInBounds_toArray, List.set_cons_zero, List.set_cons_succ])
            refine Tw_takeL (i := 1) (v := ?tv138) rfl (by kernel_rfl) (by decide) (by kernel_rfl) (by kernel_rfl) (fun _ _ _ h => h) (by rfl) ?ty138 ?tn138
            case ty138 => (intro w hSw; (try dsimp only at hSw); go_simp <;> with_reducible rfl)
            (try simp only [Act.put, List.setIfInBounds_toArray, List.set_cons_zero, List.set_cons_succ])
            refine Tw_takeL (i := 2) (v := ?tv139) rfl (by kernel_rfl) (by decide) (by kernel_rfl) (by kernel_rfl) (fun _ _ _ h => h) (by rfl) ?ty139 ?tn139
            case ty139 => (intro w hSw; (try dsimp only at hSw); go_simp <;> with_reducible rfl)
            (try simp only [Act.put, List.setIfInBounds_toArray, List.set_cons_zero, List.set_cons_succ])
            refine Tw_takeL (i := 3) (v := ?tv140) rfl (by kernel_rfl) (by decide) (by kernel_rfl) (by kernel_rfl) (fun _ _ _ h => h) (by rfl) ?ty140 ?tn140
            case ty140 => (intro w hSw; (try dsimp only at hSw); go_simp <;> with_reducible rfl)
            (try simp only [Act.put, List.setIfInBounds_toArray, List.set_cons_zero, List.set_cons_succ])
            refine Tw_takeL (i := 4) (v := ?tv141) rfl (by kernel_rfl) (by decide) (by kernel_rfl) (by kernel_rfl) (fun _ _ _ h => h) (by rfl) ?ty141 ?tn141
            case ty141 => (intro w hSw; (try dsimp only at hSw); go_simp <;> with_reducible rfl)
            (try simp only [Act.put, List.setIfInBounds_toArray, List.set_cons_zero, List.set_cons_succ])
            refine Tw_takeL (i := 5) (v := ?tv142) rfl (by kernel_rfl) (by decide) (by kernel_rfl) (by kernel_rfl) (fun _ _ _ h => h) (by rfl) ?ty142 ?tn142
            case ty142 => (intro w hSw; (try dsimp only at hSw); go_simp <;> with_reducible rfl)
            (try simp only [Act.put, List.setIfInBounds_toArray, List.set_cons_zero, List.set_cons_succ])
            refine Tw_takeL (i := 6) (v := ?tv143) rfl (by kernel_rfl) (by decide) (by kernel_rfl) (by kernel_rfl) (fun _ _ _ h => h) (by rfl) ?ty143 ?tn143
            case ty143 => (intro w hSw; (try dsimp only at hSw); go_simp <;> with_reducible rfl)
            (try simp only [Act.put, List.setIfInBounds_toArray, List.set_cons_zero, List.set_cons_succ])
            refine Tw_takeL (i := 7) (v := ?tv144) rfl (by kernel_rfl) (by decide) (by kernel_rfl) (by kernel_rfl) (fun _ _ _ h => h) (by rfl) ?ty144 ?tn144
            case ty144 => (intro w hSw; (try dsimp only at hSw); go_simp <;> with_reducible rfl)
            (try simp only [Act.put, List.setIfInBounds_toArray, List.set_cons_zero, List.set_cons_succ])
            refine Tw_takeL (i := 8) (v := ?tv145) rfl (by kernel_rfl) (by decide) (by kernel_rfl) (by kernel_rfl) (fun _ _ _ h => h) (by rfl) ?ty145 ?tn145
            case ty145 => (intro w hSw; (try dsimp only at hSw); go_simp <;> with_reducible rfl)
            (try simp only [Act.put, List.setIfInBounds_toArray, List.set_cons_zero, List.set_cons_succ])
            refine Tw_takeL (i := 9) (v := ?tv146) rfl (by kernel_rfl) (by decide) (by kernel_rfl) (by kernel_rfl) (fun _ _ _ h => h) (by rfl) ?ty146 ?tn146
            case ty146 => (intro w hSw; (try dsimp only at hSw); go_simp <;> with_reducible rfl)
            (try simp only [Act.put, List.setIfInBounds_toArray, List.set_cons_zero, List.set_cons_succ])
            refine Tw_takeL (i := 10) (v := ?tv147) rfl (by kernel_rfl) (by decide) (by kernel_rfl) (by kernel_rfl) (fun _ _ _ h => h) (by rfl) ?ty147 ?tn147
            case ty147 => (intro w hSw; (try dsimp only at hSw); go_simp <;> with_reducible rfl)
            (try simp only [Act.put, List.setIfInBounds_toArray, List.set_cons_zero, List.set_cons_succ])
            refine Tw_takeL (i := 11) (v := ?tv148) rfl (by kernel_rfl) (by decide) (by kernel_rfl) (by kernel_rfl) (fun _ _ _ h => h) (by rfl) ?ty148 ?tn148
            case ty148 => (intro w hSw; (try dsimp only at hSw); go_simp <;> with_reducible rfl)
            (try simp only [Act.put, List.setIfInBounds_toArray, List.set_cons_zero, List.set_cons_succ])
            refine Tw_takeL (i := 12) (v := ?tv149) rfl (by kernel_rfl) (by decide) (by kernel_rfl) (by kernel_rfl) (fun _ _ _ h => h) (by rfl) ?ty149 ?tn149
            case ty149 => (intro w hSw; (try dsimp only at hSw); go_simp <;> with_reducible rfl)
            (try simp only [Act.put, List.setIfInBounds_toArray, List.set_cons_zero, List.set_cons_succ])
            refine Tw_takeL (i := 13) (v := ?tv150) rfl (by kernel_rfl) (by decide) (by kernel_rfl) (by kernel_rfl) (fun _ _ _ h => h) (by rfl) ?ty150 ?tn150
            case ty150 => (intro w hSw; (try dsimp only at hSw); go_simp <;> with_reducible rfl)
            (try simp only [Act.put, List.setIfInBounds_toArray, List.set_cons_zero, List.set_cons_succ])
            refine Tw_takeL (i := 14) (v := ?tv151) rfl (by kernel_rfl) (by decide) (by kernel_rfl) (by kernel_rfl) (fun _ _ _ h => h) (by rfl) ?ty151 ?tn151
            case ty151 => (intro w hSw; (try dsimp only at hSw); go_simp <;> with_reducible rfl)
            (try simp only [Act.put, List.setIfInBounds_toArray, List.set_cons_zero, List.set_cons_succ])
            refine Tw_takeL (i := 15) (v := ?tv152) rfl (by kernel_rfl) (by decide) (by kernel_rfl) (by kernel_rfl) (fun _ _ _ h => h) (by rfl) ?ty152 ?tn152
            case ty152 => (intro w hSw; (try dsimp only at hSw); go_simp <;> with_reducible rfl)
            (try simp only [Act.put, List.setIfInBounds_toArray, List.set_cons_zero, List.set_cons_succ])
            refine Tw_takeL (i := 16) (v := ?tv153) rfl (by kernel_rfl) (by decide) (by kernel_rfl) (by kernel_rfl) (fun _ _ _ h => h) (by rfl) ?ty153 ?tn153
            case ty153 => (intro w hSw; (try dsimp only at hSw); go_simp <;> with_reducible rfl)
            (try simp only [Act.put, List.setIfInBounds_toArray, List.set_cons_zero, List.set_cons_succ])
            refine Tw_takeL (i := 17) (v := ?tv154) rfl (by kernel_rfl) (by decide) (by kernel_rfl) (by kernel_rfl) (fun _ _ _ h => h) (by rfl) ?ty154 ?tn154
            case ty154 => (intro w hSw; (try dsimp only at hSw); go_simp <;> with_reducible rfl)
            (try simp only [Act.put, List.setIfInBounds_toArray, List.set_cons_zero, List.set_cons_succ])
            refine Tw_all (rs := [18]) (by kernel_rfl) (by simp) (by decide) (fun hHeld => ?_)
            refine AllT.consL rfl (fun K hK => ?_) AllT.nil
            go_simp
            (go_at_call 57; go_split_ands; (with_reducible refine (HL7.out _ (Fr.lies (Fr.lies HA.out FK.out) (by assumption))).mono ?_); rintro e w7 ⟨rfl, hb7⟩; have F4 := Fr.call (by assumption) hb7; clear hb7)
            refine hK.out _ _ ?_ ?_
            · (try dsimp only)
              ((go_split_ands; refine HALL.out _ ?_; (first | assumption | (repeat (first | assumption | refine Fr.new ?_ _ | refine Fr.drew ?_ | (refine Fr.set ?_ (by first | exact Nat.le_refl _ | omega | (simp; done) | (simp; omega)) (by first | (simp; done) | (simp; omega)) _))); done)))
            clear hK K
            (try simp only [Act.put, List.setIfInBounds_toArray, List.set_cons_zero, List.set_cons_succ])
            refine Tw_takeL (i := 19) (v := ?tv155) rfl (by kernel_rfl) (by decide) (by kernel_rfl) (by kernel_rfl) (fun _ _ _ h => h) (by rfl) ?ty155 ?tn155
            case ty155 => (intro w hSw; (try dsimp only at hSw); go_simp <;> with_reducible rfl)
            (try simp only [Act.put, List.setIfInBounds_toArray, List.set_cons_zero, List.set_cons_succ])
            refine Tw_takeL (i := 20) (v := ?tv156) rfl (by kernel_rfl) (by decide) (by kernel_rfl) (by kernel_rfl) (fun _ _ _ h => h) (by rfl) ?ty156 ?tn156
            case ty156 => (intro w hSw; (try dsimp only at hSw); go_simp <;> with_reducible rfl)
            (try simp only [Act.put, List.setIfInBounds_toArray, List.set_cons_zero, List.set_cons_succ])
            refine Tw_takeL (i := 21) (v := ?tv157) rfl (by kernel_rfl) (by decide) (by kernel_rfl) (by kernel_rfl) (fun _ _ _ h => h) (by rfl) ?ty157 ?tn157
            case ty157 => (intro w hSw; (try dsimp only at hSw); go_simp <;> with_reducible rfl)
            (try simp only [Act.put, List.setIfInBounds_toArray, List.set_cons_zero, List.set_cons_succ])
            refine Tw_skipL (i := 22) rfl (by kernel_rfl) (by decide) (by kernel_rfl) (by kernel_rfl) (fun _ _ _ h => h) (by rfl) ?tn158
            (try simp only [Act.put, List.setIfInBounds_toArray, List.set_cons_zero, List.set_cons_succ])
            refine Tw_skipL (i := 23) rfl (by kernel_rfl) (by decide) (by kernel_rfl) (by kernel_rfl) (fun _ _ _ h => h) (by rfl) ?tn159
            (try simp only [Act.put, List.setIfInBounds_toArray, List.set_cons_zero, List.set_cons_succ])
            refine Tw_skipL (i := 24) rfl (by kernel_rfl) (by decide) (by kernel_rfl) (by kernel_rfl) (fun _ _ _ h => h) (by rfl) ?tn160
            (try simp only [Act.put, List.setIfInBounds_toArray, List.set_cons_zero, List.set_cons_succ])
            refine Tw_skipL (i := 25) rfl (by kernel_rfl) (by decide) (by kernel_rfl) (by kernel_rfl) (fun _ _ _ h => h) (by rfl) ?tn161
            (try simp only [Act.put, List.setIfInBounds_toArray, List.set_cons_zero, List.set_cons_succ])
            refine Tw_skipL (i := 26) rfl (by kernel_rfl) (by decide) (by kernel_rfl) (by kernel_rfl) (fun _ _ _ h => h) (by rfl) ?tn162
            (try simp only [Act.put, List.setIfInBounds_toArray, List.set_cons_zero, List.set_cons_succ])
            refine Tw_skipL (i := 27) rfl (by kernel_rfl) (by decide) (by kernel_rfl) (by kernel_rfl) (fun _ _ _ h => h) (by rfl) ?tn163
            (try simp only [Act.put, List.setIfInBounds_toArray, List.set_cons_zero, List.set_cons_succ])
            refine Tw_skipL (i := 28) rfl (by kernel_rfl) (by decide) (by kernel_rfl) (by kernel_rfl) (fun _ _ _ h => h) (by rfl) ?tn164
            (try simp only [Act.put, List.setIfInBounds_toArray, List.set_cons_zero, List.set_cons_succ])
            refine Tw_skipL (i := 29) rfl (by kernel_rfl) (by decide) (by kernel_rfl) (by kernel_rfl) (fun _ _ _ h => h) (by rfl) ?tn165
            (try simp only [Act.put, List.setIfInBounds_toArray, List.set_cons_zero, List.set_cons_succ])
            refine Tw_skipL (i := 30) rfl (by kernel_rfl) (by decide) (by kernel_rfl) (by kernel_rfl) (fun _ _ _ h => h) (by rfl) ?tn166
            (try simp only [Act.put, List.setIfInBounds_toArray, List.set_cons_zero, List.set_cons_succ])
            refine Tw_skipL (i := 31) rfl (by kernel_rfl) (by decide) (by kernel_rfl) (by kernel_rfl) (fun _ _ _ h => h) (by rfl) ?tn167
            (try simp only [Act.put, List.setIfInBounds_toArray, List.set_cons_zero, List.set_cons_succ])
            refine Tw_skipL (i := 32) rfl (by kernel_rfl) (by decide) (by kernel_rfl) (by kernel_rfl) (fun _ _ _ h => h) (by rfl) ?tn168
            (try simp only [Act.put, List.setIfInBounds_toArray, List.set_cons_zero, List.set_cons_succ])
            refine Tw_skipL (i := 33) rfl (by kernel_rfl) (by decide) (by kernel_rfl) (by kernel_rfl) (fun _ _ _ h => h) (by rfl) ?tn169
            (try simp only [Act.put, List.setIfInBounds_toArray, List.set_cons_zero, List.set_cons_succ])
            refine Tw_skipL (i := 34) rfl (by kernel_rfl) (by decide) (by kernel_rfl) (by kernel_rfl) (fun _ _ _ h => h) (by rfl) ?tn170
            (try simp only [Act.put, List.setIfInBounds_toArray, List.set_cons_zero, List.set_cons_succ])
            refine Tw_skipL (i := 35) rfl (by kernel_rfl) (by decide) (by kernel_rfl) (by kernel_rfl) (fun _ _ _ h => h) (by rfl) ?tn171
            (try simp only [Act.put, List.setIfInBounds_toArray, List.set_cons_zero, List.set_cons_succ])
            refine Tw_skipL (i := 36) rfl (by kernel_rfl) (by decide) (by kernel_rfl) (by kernel_rfl) (fun _ _ _ h => h) (by rfl) ?tn172
            (try simp only [Act.put, List.setIfInBounds_toArray, List.set_cons_zero, List.set_cons_succ])
            refine Tw_skipL (i := 37) rfl (by kernel_rfl) (by decide) (by kernel_rfl) (by kernel_rfl) (fun _ _ _ h => h) (by rfl) ?tn173
            (try simp only [Act.put, List.setIfInBounds_toArray, List.set_cons_zero, List.set_cons_succ])
            refine Tw_skipL (i := 38) rfl (by kernel_rfl) (by decide) (by kernel_rfl) (by kernel_rfl) (fun _ _ _ h => h) (by rfl) ?tn174
            (try simp only [Act.put, List.setIfInBounds_toArray, List.set_cons_zero, List.set_cons_succ])
            refine Tw_takeL (i := 39) (v := ?tv175) rfl (by kernel_rfl) (by decide) (by kernel_rfl) (by kernel_rfl) (fun _ _ _ h => h) (by rfl) ?ty175 ?tn175
            case ty175 => (intro w hSw; (try dsimp only at hSw); go_simp <;> with_reducible rfl)
            (try simp only [Act.put, List.setIfInBounds_toArray, List.set_cons_zero, List.set_cons_succ])
            refine Tw_end (by kernel_rfl) (fun hh => ?_)
            obtain ⟨F11, _⟩ := hh
            clear HALL
            go_wp2_with fail
            go_meet
            exact ⟨rfl, F11⟩
          case rest =>
          obtain ⟨wv, rfl⟩ : ∃ W, W = wc := ⟨_, rfl⟩
          obtain ⟨rfl, hx7⟩ := hcut
          have HF8 := Lib.hid (HF1.out.call hx7.bl)
          clear hx7 HF1
          go_wp2_with fail
          go_ret2
          exact ⟨rfl, (F1.out.call HF8.out.bl).bl⟩
        · skip
          have hc7 : decide (y - l7 < x) = false := decide_eq_false h7
          have hc8 : decide (x < y - l8) = true := decide_eq_true (by omega)
          clear hy hj hl7 hl8 hst hb7 hb8 hqy hqx hdb hdk
          go_upto_region 7 with fail
          go_cut [68] from 28 to 68 (fun r W => r = .bool true ∧ Fr wu W [])
          case first =>
            have HALL : Hid (∀ W, Fr wu W [] → Fr wu W [] ∧ W.cell? ⟨w.heap.size, 0, none⟩ = some (.string s) ∧ W.cell? ⟨w.heap.size, 1, none⟩ = some (.slice (some a) ps.length c) ∧ W.cell? ⟨w.heap.size + 1, 0, none⟩ = some (.int .i64 b.brk) ∧ W.cell? ⟨w.heap.size + 1, 2, none⟩ = some (.int .i64 b.drv) ∧ W.cell? (a2.add k) = some (.int .i64 x) ∧ W.cell? (a2.add j) = some (.int .i64 y)) := Lib.hid (fun W hW => ⟨hW, ((FK.out.get 1 rfl).call hW.bl).cell 0, ((FK.out.get 1 rfl).call hW.bl).cell 1, ((FK.out.get 0 rfl).call hW.bl).cell 0, ((FK.out.get 0 rfl).call hW.bl).cell 2, by rw [← HXX.out]; exact HLC.out k hkn _ (FK.out.tail.tail.call hW.bl), by rw [← HYY.out]; exact HLC.out j (by omega) _ (FK.out.tail.tail.call hW.bl)⟩)
            have F10 : Fr wu _ [] := Fr.nil wu
            refine Tw_start 40 (fun W => Fr wu W [] ∧ W.cell? ⟨w.heap.size, 0, none⟩ = some (.string s) ∧ W.cell? ⟨w.heap.size, 1, none⟩ = some (.slice (some a) ps.length c) ∧ W.cell? ⟨w.heap.size + 1, 0, none⟩ = some (.int .i64 b.brk) ∧ W.cell? ⟨w.heap.size + 1, 2, none⟩ = some (.int .i64 b.drv) ∧ W.cell? (a2.add k) = some (.int .i64 x) ∧ W.cell? (a2.add j) = some (.int .i64 y)) (by kernel_rfl) (by kernel_rfl) rfl ?_ ?_
            · (try dsimp only)
              ((go_split_ands; refine HALL.out _ ?_; (first | assumption | (repeat (first | assumption | refine Fr.new ?_ _ | refine Fr.drew ?_ | (refine Fr.set ?_ (by first | exact Nat.le_refl _ | omega | (simp; done) | (simp; omega)) (by first | (simp; done) | (simp; omega)) _))); done)))
            refine Tw_abs ?_
            intro wD hD
            clear hD
            refine Tw_takeL (i := 0) (v := ?tv176) rfl (by kernel_rfl) (by decide) (by kernel_rfl) (by kernel_rfl) (fun _ _ _ h => h) (by rfl) ?ty176 ?tn176
            case ty176 => (intro w hSw; (try dsimp only at hSw); go_simp <;> with_reducible rfl)
            (try simp only [Act.put, List.setIfInBounds_toArray, List.set_cons_zero, List.set_cons_succ])
            refine Tw_takeL (i := 1) (v := ?tv177) rfl (by kernel_rfl) (by decide) (by kernel_rfl) (by kernel_rfl) (fun _ _ _ h => h) (by rfl) ?ty177 ?tn177
            case ty177 => (intro w hSw; (try dsimp only at hSw); go_simp <;> with_reducible rfl)
            (try simp only [Act.put, List.setIfInBounds_toArray, List.set_cons_zero, List.set_cons_succ])
            refine Tw_takeL (i := 2) (v := ?tv178) rfl (by kernel_rfl) (by decide) (by kernel_rfl) (by kernel_rfl) (fun _ _ _ h => h) (by rfl) ?ty178 ?tn178
            case ty178 => (intro w hSw; (try dsimp only at hSw); go_simp <;> with_reducible rfl)
            (try simp only [Act.put, List.setIfInBounds_toArray, List.set_cons_zero, List.set_cons_succ])
            refine Tw_takeL (i := 3) (v := ?tv179) rfl (by kernel_rfl) (by decide) (by kernel_rfl) (by kernel_rfl) (fun _ _ _ h => h) (by rfl) ?ty179 ?tn179
            case ty179 => (intro w hSw; (try dsimp only at hSw); go_simp <;> with_reducible rfl)
            (try simp only [Act.put, List.setIfInBounds_toArray, List.set_cons_zero, List.set_cons_succ])
            refine Tw_takeL (i := 4) (v := ?tv180) rfl (by kernel_rfl) (by decide) (by kernel_rfl) (by kernel_rfl) (fun _ _ _ h => h) (by rfl) ?ty180 ?tn180
            case ty180 => (intro w hSw; (try dsimp only at hSw); go_simp <;> with_reducible rfl)
            (try simp only [Act.put, List.setIfInBounds_toArray, List.set_cons_zero, List.set_cons_succ])
            refine Tw_takeL (i := 5) (v := ?tv181) rfl (by kernel_rfl) (by decide) (by kernel_rfl) (by kernel_rfl) (fun _ _ _ h => h) (by rfl) ?ty181 ?tn181
            case ty181 => (intro w hSw; (try dsimp only at hSw); go_simp <;> with_reducible rfl)
            (try simp only [Act.put, List.setIfInBounds_toArray, List.set_cons_zero, List.set_cons_succ])
            refine Tw_takeL (i := 6) (v := ?tv182) rfl (by kernel_rfl) (by decide) (by kernel_rfl) (by kernel_rfl) (fun _ _ _ h => h) (by rfl) ?ty182 ?tn182
            case ty182 => (intro w hSw; (try dsimp only at hSw); go_simp <;> with_reducible rfl)
            (try simp only [Act.put, List.setIfInBounds_toArray, List.set_cons_zero, List.set_cons_succ])
            refine Tw_takeL (i := 7) (v := ?tv183) rfl (by kernel_rfl) (by decide) (by kernel_rfl) (by kernel_rfl) (fun _ _ _ h => h) (by rfl) ?ty183 ?tn183
            case ty183 => (intro w hSw; (try dsimp only at hSw); go_simp <;> with_reducible rfl)
            (try simp only [Act.put, List.setIfInBounds_toArray, List.set_cons_zero, List.set_cons_succ])
            refine Tw_takeL (i := 8) (v := ?tv184) rfl (by kernel_rfl) (by decide) (by kernel_rfl) (by kernel_rfl) (fun _ _ _ h => h) (by rfl) ?ty184 ?tn184
            case ty184 => (intro w hSw; (try dsimp only at hSw); go_simp <;> with_reducible rfl)
            (try simp only [Act.put, List.setIfInBounds_toArray, List.set_cons_zero, List.set_cons_succ])
            refine Tw_takeL (i := 9) (v := ?tv185) rfl (by kernel_rfl) (by decide) (by kernel_rfl) (by kernel_rfl) (fun _ _ _ h => h) (by rfl) ?ty185 ?tn185
            case ty185 => (intro w hSw; (try dsimp only at hSw); go_simp <;> with_reducible rfl)
            (try simp only [Act.put, List.setIfInBounds_toArray, List.set_cons_zero, List.set_cons_succ])
            refine Tw_takeL (i := 10) (v := ?tv186) rfl (by kernel_rfl) (by decide) (by kernel_rfl) (by kernel_rfl) (fun _ _ _ h => h) (by rfl) ?ty186 ?tn186
            case ty186 => (intro w hSw; (try dsimp only at hSw); go_simp <;> with_reducible rfl)
            (try simp only [Act.put, List.setIfInBounds_toArray, List.set_cons_zero, List.set_cons_succ])
            refine Tw_takeL (i := 11) (v := ?tv187) rfl (by kernel_rfl) (by decide) (by kernel_rfl) (by kernel_rfl) (fun _ _ _ h => h) (by rfl) ?ty187 ?tn187
            case ty187 => (intro w hSw; (try dsimp only at hSw); go_simp <;> with_reducible rfl)
            (try simp only [Act.put, List.setIfInBounds_toArray, List.set_cons_zero, List.set_cons_succ])
            refine Tw_takeL (i := 12) (v := ?tv188) rfl (by kernel_rfl) (by decide) (by kernel_rfl) (by kernel_rfl) (fun _ _ _ h => h) (by rfl) ?ty188 ?tn188
            case ty188 => (intro w hSw; (try dsimp only at hSw); go_simp <;> with_reducible rfl)
            (try simp only [Act.put, List.setIfInBounds_toArray, List.set_cons_zero, List.set_cons_succ])
            refine Tw_takeL (i := 13) (v := ?tv189) rfl (by kernel_rfl) (by decide) (by kernel_rfl) (by kernel_rfl) (fun _ _ _ h => h) (by rfl) ?ty189 ?tn189
            case ty189 => (intro w hSw; (try dsimp only at hSw); go_simp <;> with_reducible rfl)
            (try simp only [Act.put, List.setIfInBounds_toArray, List.set_cons_zero, List.set_cons_succ])
            refine Tw_takeL (i := 14) (v := ?tv190) rfl (by kernel_rfl) (by decide) (by kernel_rfl) (by kernel_rfl) (fun _ _ _ h => h) (by rfl) ?ty190 ?tn190
            case ty190 => (intro w hSw; (try dsimp only at hSw); go_simp <;> with_reducible rfl)
            (try simp only [Act.put, List.setIfInBounds_toArray, List.set_cons_zero, List.set_cons_succ])
            refine Tw_takeL (i := 15) (v := ?tv191) rfl (by kernel_rfl) (by decide) (by kernel_rfl) (by kernel_rfl) (fun _ _ _ h => h) (by rfl) ?ty191 ?tn191
            case ty191 => (intro w hSw; (try dsimp only at hSw); go_simp <;> with_reducible rfl)
            (try simp only [Act.put, List.setIfInBounds_toArray, List.set_cons_zero, List.set_cons_succ])
            refine Tw_takeL (i := 16) (v := ?tv192) rfl (by kernel_rfl) (by decide) (by kernel_rfl) (by kernel_rfl) (fun _ _ _ h => h) (by rfl) ?ty192 ?tn192
            case ty192 => (intro w hSw; (try dsimp only at hSw); go_simp <;> with_reducible rfl)
            (try simp only [Act.put, List.setIfInBounds_toArray, List.set_cons_zero, List.set_cons_succ])
            refine Tw_takeL (i := 17) (v := ?tv193) rfl (by kernel_rfl) (by decide) (by kernel_rfl) (by kernel_rfl) (fun _ _ _ h => h) (by rfl) ?ty193 ?tn193
            case ty193 => (intro w hSw; (try dsimp only at hSw); go_simp <;> with_reducible rfl)
            (try simp only [Act.put, List.setIfInBounds_toArray, List.set_cons_zero, List.set_cons_succ])
            refine Tw_all (rs := [18]) (by kernel_rfl) (by simp) (by decide) (fun hHeld => ?_)
            refine AllT.consL rfl (fun K hK => ?_) AllT.nil
            go_simp
            (go_at_call 57; go_split_ands; (with_reducible refine (HL7.out _ (Fr.lies (Fr.lies HA.out FK.out) (by assumption))).mono ?_); rintro e w7 ⟨rfl, hb7⟩; have F4 := Fr.call (by assumption) hb7; clear hb7)
            refine hK.out _ _ ?_ ?_
            · (try dsimp only)
              ((go_split_ands; refine HALL.out _ ?_; (first | assumption | (repeat (first | assumption | refine Fr.new ?_ _ | refine Fr.drew ?_ | (refine Fr.set ?_ (by first | exact Nat.le_refl _ | omega | (simp; done) | (simp; omega)) (by first | (simp; done) | (simp; omega)) _))); done)))
            clear hK K
            (try simp only [Act.put, List.setIfInBounds_toArray, List.set_cons_zero, List.set_cons_succ])
            refine Tw_takeL (i := 19) (v := ?tv194) rfl (by kernel_rfl) (by decide) (by kernel_rfl) (by kernel_rfl) (fun _ _ _ h => h) (by rfl) ?ty194 ?tn194
            case ty194 => (intro w hSw; (try dsimp only at hSw); go_simp <;> with_reducible rfl)
            (try simp only [Act.put, List.setIfInBounds_toArray, List.set_cons_zero, List.set_cons_succ])
            refine Tw_takeL (i := 20) (v := ?tv195) rfl (by kernel_rfl) (by decide) (by kernel_rfl) (by kernel_rfl) (fun _ _ _ h => h) (by rfl) ?ty195 ?tn195
            case ty195 => (intro w hSw; (try dsimp only at hSw); go_simp <;> with_reducible rfl)
            (try simp only [Act.put, List.setIfInBounds_toArray, List.set_cons_zero, List.set_cons_succ])
            refine Tw_takeL (i := 21) (v := ?tv196) rfl (by kernel_rfl) (by decide) (by kernel_rfl) (by kernel_rfl) (fun _ _ _ h => h) (by rfl) ?ty196 ?tn196
            case ty196 => (intro w hSw; (try dsimp only at hSw); go_simp <;> with_reducible rfl)
            (try simp only [Act.put, List.setIfInBounds_toArray, List.set_cons_zero, List.set_cons_succ])
            refine Tw_takeL (i := 22) (v := ?tv197) rfl (by kernel_rfl) (by decide) (by kernel_rfl) (by kernel_rfl) (fun _ _ _ h => h) (by rfl) ?ty197 ?tn197
            case ty197 => (intro w hSw; (try dsimp only at hSw); go_simp <;> with_reducible rfl)
            (try simp only [Act.put, List.setIfInBounds_toArray, List.set_cons_zero, List.set_cons_succ])
            refine Tw_takeL (i := 23) (v := ?tv198) rfl (by kernel_rfl) (by decide) (by kernel_rfl) (by kernel_rfl) (fun _ _ _ h => h) (by rfl) ?ty198 ?tn198
            case ty198 => (intro w hSw; (try dsimp only at hSw); go_simp <;> with_reducible rfl)
            (try simp only [Act.put, List.setIfInBounds_toArray, List.set_cons_zero, List.set_cons_succ])
            refine Tw_takeL (i := 24) (v := ?tv199) rfl (by kernel_rfl) (by decide) (by kernel_rfl) (by kernel_rfl) (fun _ _ _ h => h) (by rfl) ?ty199 ?tn199
            case ty199 => (intro w hSw; (try dsimp only at hSw); go_simp <;> with_reducible rfl)
            (try simp only [Act.put, List.setIfInBounds_toArray, List.set_cons_zero, List.set_cons_succ])
            refine Tw_takeL (i := 25) (v := ?tv200) rfl (by kernel_rfl) (by decide) (by kernel_rfl) (by kernel_rfl) (fun _ _ _ h => h) (by rfl) ?ty200 ?tn200
            case ty200 => (intro w hSw; (try dsimp only at hSw); go_simp <;> with_reducible rfl)
            (try simp only [Act.put, List.setIfInBounds_toArray, List.set_cons_zero, List.set_cons_succ])
            refine Tw_takeL (i := 26) (v := ?tv201) rfl (by kernel_rfl) (by decide) (by kernel_rfl) (by kernel_rfl) (fun _ _ _ h => h) (by rfl) ?ty201 ?tn201
            case ty201 => (intro w hSw; (try dsimp only at hSw); go_simp <;> with_reducible rfl)
            (try simp only [Act.put, List.setIfInBounds_toArray, List.set_cons_zero, List.set_cons_succ])
            refine Tw_takeL (i := 27) (v := ?tv202) rfl (by kernel_rfl) (by decide) (by kernel_rfl) (by kernel_rfl) (fun _ _ _ h => h) (by rfl) ?ty202 ?tn202
            case ty202 => (intro w hSw; (try dsimp only at hSw); go_simp <;> with_reducible rfl)
            (try simp only [Act.put, List.setIfInBounds_toArray, List.set_cons_zero, List.set_cons_succ])
            refine Tw_takeL (i := 28) (v := ?tv203) rfl (by kernel_rfl) (by decide) (by kernel_rfl) (by kernel_rfl) (fun _ _ _ h => h) (by rfl) ?ty203 ?tn203
            case ty203 => (intro w hSw; (try dsimp only at hSw); go_simp <;> with_reducible rfl)
            (try simp only [Act.put, List.setIfInBounds_toArray, List.set_cons_zero, List.set_cons_succ])
            refine Tw_takeL (i := 29) (v := ?tv204) rfl (by kernel_rfl) (by decide) (by kernel_rfl) (by kernel_rfl) (fun _ _ _ h => h) (by rfl) ?ty204 ?tn204
            case ty204 => (intro w hSw; (try dsimp only at hSw); go_simp <;> with_reducible rfl)
            (try simp only [Act.put, List.setIfInBounds_toArray, List.set_cons_zero, List.set_cons_succ])
            refine Tw_takeL (i := 30) (v := ?tv205) rfl (by kernel_rfl) (by decide) (by kernel_rfl) (by kernel_rfl) (fun _ _ _ h => h) (by rfl) ?ty205 ?tn205
            case ty205 => (intro w hSw; (try dsimp only at hSw); go_simp <;> with_reducible rfl)
            (try simp only [Act.put, List.setIfInBounds_toArray, List.set_cons_zero, List.set_cons_succ])
            refine Tw_takeL (i := 31) (v := ?tv206) rfl (by kernel_rfl) (by decide) (by kernel_rfl) (by kernel_rfl) (fun _ _ _ h => h) (by rfl) ?ty206 ?tn206
            case ty206 => (intro w hSw; (try dsimp only at hSw); go_simp <;> with_reducible rfl)
            (try simp only [Act.put, List.setIfInBounds_toArray, List.set_cons_zero, List.set_cons_succ])
            refine Tw_takeL (i := 32) (v := ?tv207) rfl (by kernel_rfl) (by decide) (by kernel_rfl) (by kernel_rfl) (fun _ _ _ h => h) (by rfl) ?ty207 ?tn207
            case ty207 => (intro w hSw; (try dsimp only at hSw); go_simp <;> with_reducible rfl)
            (try simp only [Act.put, List.setIfInBounds_toArray, List.set_cons_zero, List.set_cons_succ])
            refine Tw_takeL (i := 33) (v := ?tv208) rfl (by kernel_rfl) (by decide) (by kernel_rfl) (by kernel_rfl) (fun _ _ _ h => h) (by rfl) ?ty208 ?tn208
            case ty208 => (intro w hSw; (try dsimp only at hSw); go_simp <;> with_reducible rfl)
            (try simp only [Act.put, List.setIfInBounds_toArray, List.set_cons_zero, List.set_cons_succ])
            refine Tw_takeL (i := 34) (v := ?tv209) rfl (by kernel_rfl) (by decide) (by kernel_rfl) (by kernel_rfl) (fun _ _ _ h => h) (by rfl) ?ty209 ?tn209
            case ty209 => (intro w hSw; (try dsimp only at hSw); go_simp <;> with_reducible rfl)
            (try simp only [Act.put, List.setIfInBounds_toArray, List.set_cons_zero, List.set_cons_succ])
            refine Tw_takeL (i := 35) (v := ?tv210) rfl (by kernel_rfl) (by decide) (by kernel_rfl) (by kernel_rfl) (fun _ _ _ h => h) (by rfl) ?ty210 ?tn210
            case ty210 => (intro w hSw; (try dsimp only at hSw); go_simp <;> with_reducible rfl)
            (try simp only [Act.put, List.setIfInBounds_toArray, List.set_cons_zero, List.set_cons_succ])
            refine Tw_all (rs := [36]) (by kernel_rfl) (by simp) (by decide) (fun hHeld => ?_)
            refine AllT.consL rfl (fun K hK => ?_) AllT.nil
            go_simp
            (go_at_call 57; go_split_ands; (with_reducible refine (HL8.out _ (Fr.lies (Fr.lies HA.out FK.out) (by assumption))).mono ?_); rintro e w7 ⟨rfl, hb7⟩; have F4 := Fr.call (by assumption) hb7; clear hb7)
            refine hK.out _ _ ?_ ?_
            · (try dsimp only)
              ((go_split_ands; refine HALL.out _ ?_; (first | assumption | (repeat (first | assumption | refine Fr.new ?_ _ | refine Fr.drew ?_ | (refine Fr.set ?_ (by first | exact Nat.le_refl _ | omega | (simp; done) | (simp; omega)) (by first | (simp; done) | (simp; omega)) _))); done)))
            clear hK K
            (try simp only [Act.put, List.setIfInBounds_toArray, List.set_cons_zero, List.set_cons_succ])
            refine Tw_takeL (i := 37) (v := ?tv211) rfl (by kernel_rfl) (by decide) (by kernel_rfl) (by kernel_rfl) (fun _ _ _ h => h) (by rfl) ?ty211 ?tn211
            case ty211 => (intro w hSw; (try dsimp only at hSw); go_simp <;> with_reducible rfl)
            (try simp only [Act.put, List.setIfInBounds_toArray, List.set_cons_zero, List.set_cons_succ])
            refine Tw_takeL (i := 38) (v := ?tv212) rfl (by kernel_rfl) (by decide) (by kernel_rfl) (by kernel_rfl) (fun _ _ _ h => h) (by rfl) ?ty212 ?tn212
            case ty212 => (intro w hSw; (try dsimp only at hSw); go_simp <;> with_reducible rfl)
            (try simp only [Act.put, List.setIfInBounds_toArray, List.set_cons_zero, List.set_cons_succ])
            refine Tw_takeL (i := 39) (v := ?tv213) rfl (by kernel_rfl) (by decide) (by kernel_rfl) (by kernel_rfl) (fun _ _ _ h => h) (by rfl) ?ty213 ?tn213
            case ty213 => (intro w hSw; (try dsimp only at hSw); go_simp <;> with_reducible rfl)
            (try simp only [Act.put, List.setIfInBounds_toArray, List.set_cons_zero, List.set_cons_succ])
            refine Tw_end (by kernel_rfl) (fun hh => ?_)
            obtain ⟨F11, _⟩ := hh
            clear HALL
            go_wp2_with fail
            go_meet
            exact ⟨rfl, F11⟩
          case rest =>
          obtain ⟨wv, rfl⟩ : ∃ W, W = wc := ⟨_, rfl⟩
          obtain ⟨rfl, hx7⟩ := hcut
          have HF8 := Lib.hid (HF1.out.call hx7.bl)
          clear hx7 HF1
          go_wp2_with fail
          go_ret2
          exact ⟨rfl, (F1.out.call HF8.out.bl).bl⟩
end Go.Proofs.Ytmjooiocgeoaiaa
