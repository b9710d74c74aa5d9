
/-
  The walk of StatorHarmonics.
-/
import Derived.Test.YtohldmmfnjfgmaaDoorTHrD
namespace Go.Proofs.YtohldmmfnjfgmaaDoor
open Go.RowKit

/-- The orders of samples, nothing behind the sixth. -/
def hV (x : Nat → Int) (i : Nat) : T3 := if i < 6 then ordV x i else T3.zero
theorem hV_at (x : Nat → Int) {i : Nat} (h : i < 6) : hV x i = ordV x i := by unfold hV; rw [if_pos h]
theorem ord_part {x : Nat → Int} (h : ∀ i, -100000 ≤ x i ∧ x i ≤ 100000) {k : Nat} (hk : k < 6) : (-600000 ≤ (ordV x k).a ∧ (ordV x k).a ≤ 600000) ∧ -600000 ≤ (ordV x k).b ∧ (ordV x k).b ≤ 600000 := by
  obtain ⟨o0, o1, o2, o3, o4, o5⟩ := ord_vals x
  have h0 := h 0
  have h1 := h 1
  have h2 := h 2
  have h3 := h 3
  have h4 := h 4
  have h5 := h 5
  rcases six_cases hk with rfl | rfl | rfl | rfl | rfl | rfl
  · rw [o0]; simp only; omega
  · rw [o1]; simp only; omega
  · rw [o2]; simp only; omega
  · rw [o3]; simp only; omega
  · rw [o4]; simp only; omega
  · rw [o5]; simp only; omega
theorem back_h (x : Nat → Int) {n : Nat} (hn : n < 6) : backV (hV x) n = ⟨6 * x n, 0⟩ := by
  rw [← back_ord x n hn]
  exact tsum_same 6 (fun i hi => hV_at x hi)
theorem quo_h (x : Nat → Int) {n : Nat} (hn : n < 6) : quo (hV x) n = x n := by
  unfold quo
  rw [back_h x hn]
  exact Int.mul_tdiv_cancel_left _ (by decide)
theorem smp_ord {x : Nat → Int} (h : ok6 x = true) (hz : ∀ i, 6 ≤ i → x i = 0) : smpA (hV x) = (quo (hV x), 0) := by
  have hb := ok6_in h hz
  have h1 : okH (hV x) = true := okH_all fun j hj => by
    have := ord_part hb hj
    rw [hV_at x hj]
    simp only [okh, Bool.and_eq_true, inB_iff]
    omega
  have h2 : allF (hV x) = true := allF_all fun j hj => by
    unfold frm
    rw [back_h x hj]
    simp
  have h3 : ok6 (quo (hV x)) = true := by
    unfold ok6 at h ⊢
    rw [quo_h x (by omega), quo_h x (by omega), quo_h x (by omega), quo_h x (by omega), quo_h x (by omega), quo_h x (by omega)]
    exact h
  unfold smpA
  rw [if_neg (by rw [h1]; simp), if_neg (by rw [h2]; simp), if_neg (by rw [h3]; simp)]
theorem SamplesOf_ord (x : Nat → Int) (h : ok6 x = true) (hz : ∀ i, 6 ≤ i → x i = 0) (w : World) : Calls Tryd.prog 12 #[.agg #[.int .i64 (ordV x 0).a, .int .i64 (ordV x 0).b, .int .i64 (ordV x 1).a, .int .i64 (ordV x 1).b, .int .i64 (ordV x 2).a, .int .i64 (ordV x 2).b, .int .i64 (ordV x 3).a, .int .i64 (ordV x 3).b, .int .i64 (ordV x 4).a, .int .i64 (ordV x 4).b, .int .i64 (ordV x 5).a, .int .i64 (ordV x 5).b]] w fun e w' => e = .returned (.tuple #[.agg #[.int .i64 (x 0), .int .i64 (x 1), .int .i64 (x 2), .int .i64 (x 3), .int .i64 (x 4), .int .i64 (x 5)], .int .i64 0]) ∧ Below w.heap.size w w' := by
  have hh := SamplesOf_any (hV x) (fun i hi => by unfold hV; rw [if_neg (by omega)]) w
  rw [hV_at x (by omega : 0 < 6), hV_at x (by omega : 1 < 6), hV_at x (by omega : 2 < 6), hV_at x (by omega : 3 < 6), hV_at x (by omega : 4 < 6), hV_at x (by omega : 5 < 6)] at hh
  refine hh.mono fun e w' hp => ?_
  unfold SmpPost at hp
  rw [smp_ord h hz] at hp
  simp only at hp
  rw [quo_h x (by omega : 0 < 6), quo_h x (by omega : 1 < 6), quo_h x (by omega : 2 < 6), quo_h x (by omega : 3 < 6), quo_h x (by omega : 4 < 6), quo_h x (by omega : 5 < 6)] at hp
  exact hp
/-- The sum of the squares of the first k orders. -/
def nsV (x : Nat → Int) : Nat → Int
  | 0 => 0
  | k + 1 => nsV x k + (ordV x k).nrm
theorem ns_all (x : Nat → Int) : nsV x 6 = 6 * enV x 6 := by
  rw [← ord_energy]
  simp [nsV]
theorem nrm_part {v : T3} (h : (-600000 ≤ v.a ∧ v.a ≤ 600000) ∧ -600000 ≤ v.b ∧ v.b ≤ 600000) : -2000000000000 ≤ v.nrm ∧ v.nrm ≤ 2000000000000 := by
  have h1 := mulB h.1 h.1
  have h2 := mulB h.1 h.2
  have h3 := mulB h.2 h.2
  unfold T3.nrm
  omega
theorem ns_in {x : Nat → Int} (h : ∀ i, -100000 ≤ x i ∧ x i ≤ 100000) : ∀ k : Nat, k ≤ 6 → -(k * 2000000000000 : Int) ≤ nsV x k ∧ nsV x k ≤ k * 2000000000000
  | 0, _ => by simp [nsV]
  | k + 1, hk => by
    have ih := ns_in h k (by omega)
    have := nrm_part (ord_part h (show k < 6 by omega))
    simp only [nsV]
    push_cast
    omega
theorem eqA6_same (x : Nat → Int) (w : World) : (Op.equalIn 10000 22 (.agg #[.int .i64 (x 0), .int .i64 (x 1), .int .i64 (x 2), .int .i64 (x 3), .int .i64 (x 4), .int .i64 (x 5)]) (.agg #[.int .i64 (x 0), .int .i64 (x 1), .int .i64 (x 2), .int .i64 (x 3), .int .i64 (x 4), .int .i64 (x 5)])).run Tryd.prog w = .ok true w := by
  have u3 := Tryd.underlying3
  have a3 := Tryd.isAgg3
  have z3 := Tryd.sizeOf3
  rw [show (10000 : Nat) = 9999 + 1 from rfl, Op.equalIn]
  simp only [Sem.run_bind, run_underlying Tryd.underlying22, Result.andThen_ok]
  simp only [Std.Legacy.Range.forIn_eq_forIn_range', Std.Legacy.Range.size, Nat.sub_zero, Nat.add_sub_cancel, Nat.div_one, List.range'_succ, List.range'_zero, List.forIn_cons, List.forIn_nil]
  go_simp

set_option maxHeartbeats 8000000 in
set_option maxRecDepth 100000 in
theorem harm_bad (x : Nat → Int) (h : ok6 x = false) (w : World) (hT : Tab w) : Calls Tryd.prog 4 #[.agg #[.int .i64 (x 0), .int .i64 (x 1), .int .i64 (x 2), .int .i64 (x 3), .int .i64 (x 4), .int .i64 (x 5)]] w fun e w' => e = .returned (.bool true) ∧ Below w.heap.size w w' := by
  have F0 := Lib.hid (Fr.b1 w 22 #[.int .i64 (x 0), .int .i64 (x 1), .int .i64 (x 2), .int .i64 (x 3), .int .i64 (x 4), .int .i64 (x 5)])
  have T0 := Lib.hid (hT.new (.cells #[.int .i64 (x 0), .int .i64 (x 1), .int .i64 (x 2), .int .i64 (x 3), .int .i64 (x 4), .int .i64 (x 5)] 22))
  have HS := Lib.hid (fun w => by have := SamplesErr_any x w; rw [if_neg (by rw [h]; simp)] at this; exact this)
  clear h hT
  go_enter Tryd.func4, Tryd.ntmps4
  go_wp2_with fail
  refine (awake_any _ T0.out).mono ?_
  rintro e w1 ⟨rfl, hb1⟩
  have F1 := Lib.hid (F0.out.call hb1)
  clear hb1 F0
  have x0 := F1.out.top.cell 0
  have x1 := F1.out.top.cell 1
  have x2 := F1.out.top.cell 2
  have x3 := F1.out.top.cell 3
  have x4 := F1.out.top.cell 4
  have x5 := F1.out.top.cell 5
  go_wp2_with fail
  refine (HS.out _).mono ?_
  rintro e w2 ⟨rfl, hb2⟩
  have F2 := Lib.hid (F1.out.call hb2)
  clear hb2 F1 x0 x1 x2 x3 x4 x5
  go_wp2_with fail
  go_ret
  exact ⟨rfl, F2.out.bl⟩

set_option maxHeartbeats 8000000 in
set_option maxRecDepth 100000 in
theorem harm_ok (x : Nat → Int) (h : ok6 x = true) (hz : ∀ i, 6 ≤ i → x i = 0) (w : World) (hT : Tab w) : Calls Tryd.prog 4 #[.agg #[.int .i64 (x 0), .int .i64 (x 1), .int .i64 (x 2), .int .i64 (x 3), .int .i64 (x 4), .int .i64 (x 5)]] w fun e w' => e = .returned (.bool true) ∧ Below w.heap.size w w' := by
  have F0 := Lib.hid (Fr.b1 w 22 #[.int .i64 (x 0), .int .i64 (x 1), .int .i64 (x 2), .int .i64 (x 3), .int .i64 (x 4), .int .i64 (x 5)])
  have T0 := Lib.hid (hT.new (.cells #[.int .i64 (x 0), .int .i64 (x 1), .int .i64 (x 2), .int .i64 (x 3), .int .i64 (x 4), .int .i64 (x 5)] 22))
  have HS := Lib.hid (fun w => by have := SamplesErr_any x w; rw [if_pos h] at this; exact this)
  have HOR := Lib.hid (OrdersOf_ok x h hz)
  have HEN := Lib.hid (EnergyOf_ok x h hz)
  have HSA := Lib.hid (SamplesOf_ord x h hz)
  have HB := Lib.hid (ok6_in h hz)
  have HNS := Lib.hid (ns_all x)
  clear h hz hT
  go_enter Tryd.func4, Tryd.ntmps4
  go_wp2_with fail
  refine (awake_any _ T0.out).mono ?_
  rintro e w1 ⟨rfl, hb1⟩
  have F1 := Lib.hid (F0.out.call hb1)
  clear hb1 F0
  have x0 := F1.out.top.cell 0
  have x1 := F1.out.top.cell 1
  have x2 := F1.out.top.cell 2
  have x3 := F1.out.top.cell 3
  have x4 := F1.out.top.cell 4
  have x5 := F1.out.top.cell 5
  go_wp2_with fail
  refine (HS.out _).mono ?_
  rintro e w1' ⟨rfl, hb2⟩
  have F2 := Lib.hid (F1.out.call hb2)
  clear hb2 F1 x0 x1 x2 x3 x4 x5
  have x0 := F2.out.top.cell 0
  have x1 := F2.out.top.cell 1
  have x2 := F2.out.top.cell 2
  have x3 := F2.out.top.cell 3
  have x4 := F2.out.top.cell 4
  have x5 := F2.out.top.cell 5
  go_wp2_with fail
  refine (HOR.out _).mono ?_
  rintro e w2 ⟨rfl, hb2⟩
  have G2 := F2.out.call hb2
  clear hb2 x0 x1 x2 x3 x4 x5
  have x0 := G2.top.cell 0
  have x1 := G2.top.cell 1
  have x2 := G2.top.cell 2
  have x3 := G2.top.cell 3
  have x4 := G2.top.cell 4
  have x5 := G2.top.cell 5
  have z3 := G2.top.lt
  have F3 : Hid (Fr w _ [(w2.heap.size, 25, #[.int .i64 (ordV x 0).a, .int .i64 (ordV x 0).b, .int .i64 (ordV x 1).a, .int .i64 (ordV x 1).b, .int .i64 (ordV x 2).a, .int .i64 (ordV x 2).b, .int .i64 (ordV x 3).a, .int .i64 (ordV x 3).b, .int .i64 (ordV x 4).a, .int .i64 (ordV x 4).b, .int .i64 (ordV x 5).a, .int .i64 (ordV x 5).b]), (w.heap.size, 22, #[.int .i64 (x 0), .int .i64 (x 1), .int .i64 (x 2), .int .i64 (x 3), .int .i64 (x 4), .int .i64 (x 5)])]) := Lib.hid (G2.box 25 #[.int .i64 (ordV x 0).a, .int .i64 (ordV x 0).b, .int .i64 (ordV x 1).a, .int .i64 (ordV x 1).b, .int .i64 (ordV x 2).a, .int .i64 (ordV x 2).b, .int .i64 (ordV x 3).a, .int .i64 (ordV x 3).b, .int .i64 (ordV x 4).a, .int .i64 (ordV x 4).b, .int .i64 (ordV x 5).a, .int .i64 (ordV x 5).b])
  clear G2 F2
  go_wp2_with fail
  refine (HEN.out _).mono ?_
  rintro e w4 ⟨rfl, hb4⟩
  have F4 := Lib.hid (F3.out.call hb4)
  clear hb4 F3 z3 x0 x1 x2 x3 x4 x5
  have h0 := F4.out.top.cell 0
  have h1 := F4.out.top.cell 1
  have h2 := F4.out.top.cell 2
  have h3 := F4.out.top.cell 3
  have h4 := F4.out.top.cell 4
  have h5 := F4.out.top.cell 5
  have h6 := F4.out.top.cell 6
  have h7 := F4.out.top.cell 7
  have h8 := F4.out.top.cell 8
  have h9 := F4.out.top.cell 9
  have h10 := F4.out.top.cell 10
  have h11 := F4.out.top.cell 11
  go_wp2_with fail
  refine (HSA.out _).mono ?_
  rintro e w5 ⟨rfl, hb5⟩
  have G5 := F4.out.call hb5
  clear hb5 F4 h0 h1 h2 h3 h4 h5 h6 h7 h8 h9 h10 h11
  have x0 := G5.at1.cell 0
  have x1 := G5.at1.cell 1
  have x2 := G5.at1.cell 2
  have x3 := G5.at1.cell 3
  have x4 := G5.at1.cell 4
  have x5 := G5.at1.cell 5
  have z5 := G5.at1.lt
  have z6 := G5.top.lt
  have F5 : Hid (Fr w _ [(w2.heap.size, 25, #[.int .i64 (ordV x 0).a, .int .i64 (ordV x 0).b, .int .i64 (ordV x 1).a, .int .i64 (ordV x 1).b, .int .i64 (ordV x 2).a, .int .i64 (ordV x 2).b, .int .i64 (ordV x 3).a, .int .i64 (ordV x 3).b, .int .i64 (ordV x 4).a, .int .i64 (ordV x 4).b, .int .i64 (ordV x 5).a, .int .i64 (ordV x 5).b]), (w.heap.size, 22, #[.int .i64 (x 0), .int .i64 (x 1), .int .i64 (x 2), .int .i64 (x 3), .int .i64 (x 4), .int .i64 (x 5)])]) := Lib.hid (G5.box 22 #[.int .i64 (x 0), .int .i64 (x 1), .int .i64 (x 2), .int .i64 (x 3), .int .i64 (x 4), .int .i64 (x 5)]).tail
  clear G5
  have hq := eqA6_same x
  go_wp2_with fail
  clear hq z5 z6 x0 x1 x2 x3 x4 x5
  go_loopw [9, 10] (fun s i wr => ∃ k : Nat, k ≤ 6 ∧ i = .int .i64 k ∧ s = .int .i64 (nsV x k) ∧ Fr w wr [(w2.heap.size, 25, #[.int .i64 (ordV x 0).a, .int .i64 (ordV x 0).b, .int .i64 (ordV x 1).a, .int .i64 (ordV x 1).b, .int .i64 (ordV x 2).a, .int .i64 (ordV x 2).b, .int .i64 (ordV x 3).a, .int .i64 (ordV x 3).b, .int .i64 (ordV x 4).a, .int .i64 (ordV x 4).b, .int .i64 (ordV x 5).a, .int .i64 (ordV x 5).b]), (w.heap.size, 22, #[.int .i64 (x 0), .int .i64 (x 1), .int .i64 (x 2), .int .i64 (x 3), .int .i64 (x 4), .int .i64 (x 5)])]) (fun _ i _ => 6 - (intOf i).toNat)
  case atStart => exact ⟨0, by omega, rfl, rfl, F5.out⟩
  case round =>
    obtain ⟨k, hk, rfl, rfl, hfr⟩ := hrel
    have FK := Lib.hid hfr
    clear hfr F5
    by_cases hlt : k < 6
    · have hlt' : (k : Int) < 6 := by omega
      have hpt := ord_part HB.out hlt
      have hwa : inB (ordV x k).a (-600000) 600000 = true := inB_iff.2 hpt.1
      have hwb : inB (ordV x k).b (-600000) 600000 = true := inB_iff.2 hpt.2
      have HTN := Lib.hid (TNorm_any (ordV x k) ⟨by omega, by omega, by omega, by omega⟩)
      obtain ⟨n0, n1⟩ := ns_in HB.out k (by omega)
      obtain ⟨n2, n3⟩ := nrm_part hpt
      have HN1 : Hid (nsV x (k + 1) = nsV x k + (ordV x k).nrm) := Lib.hid rfl
      obtain ⟨c0, c1⟩ := FK.out.tcell hlt
      have n4 : -12000000000000 ≤ nsV x k := by omega
      have n5 : nsV x k ≤ 12000000000000 := by omega
      generalize (ordV x k).nrm = nn at *
      clear hpt n0 n1
      go_wp2_with (go_at_call 18; refine (Within_any _ _ _ _).mono ?_; rintro e w' ⟨rfl, rfl⟩; (first | rw [hwa] | rw [hwb]))
      refine (HTN.out _).mono ?_
      rintro e w6 ⟨rfl, hb6⟩
      have F6 := Lib.hid (FK.out.call hb6)
      clear hb6 FK c0 c1 hwa hwb
      go_wp2_with fail
      go_roundw
      case rel => exact ⟨k + 1, by omega, by go_num, by rw [HN1.out], F6.out⟩
      case measure => simp [intOf]; omega
    · obtain rfl : k = 6 := by omega
      have he := en_in HB.out 6
      rw [HNS.out]
      generalize enV x 6 = en at *
      obtain ⟨e0, e1⟩ := he
      obtain ⟨b0, b1⟩ := HB.out 0
      obtain ⟨b2, b3⟩ := HB.out 1
      obtain ⟨b4, b5⟩ := HB.out 2
      have e2 : en ≤ 60000000000 := by omega
      clear e1
      have x0 := FK.out.at1.cell 0
      have x1 := FK.out.at1.cell 1
      have x2 := FK.out.at1.cell 2
      have x3 := FK.out.at1.cell 3
      have x4 := FK.out.at1.cell 4
      have x5 := FK.out.at1.cell 5
      by_cases h0 : x 3 = -x 0
      · by_cases h1 : x 4 = -x 1
        · by_cases h2 : x 5 = -x 2
          · obtain ⟨o0, o2, o4⟩ := ord_even x h0 h1 h2
            have t0 : (x 3 == -x 0) = true := by simp [h0]
            have d0 : decide (x 3 = -x 0) = true := by simp [h0]
            have t1 : (x 4 == -x 1) = true := by simp [h1]
            have d1 : decide (x 4 = -x 1) = true := by simp [h1]
            have t2 : (x 5 == -x 2) = true := by simp [h2]
            have d2 : decide (x 5 = -x 2) = true := by simp [h2]
            have p0 := (FK.out.tcell (show 0 < 6 by omega)).1
            have p1 := (FK.out.tcell (show 0 < 6 by omega)).2
            have p4 := (FK.out.tcell (show 2 < 6 by omega)).1
            have p5 := (FK.out.tcell (show 2 < 6 by omega)).2
            have p8 := (FK.out.tcell (show 4 < 6 by omega)).1
            have p9 := (FK.out.tcell (show 4 < 6 by omega)).2
            rw [o0] at p0 p1
            rw [o2] at p4 p5
            rw [o4] at p8 p9
            simp only [Nat.zero_mul, Nat.zero_add, Nat.reduceMul, Nat.reduceAdd] at p0 p1 p4 p5 p8 p9
            clear h0 h1 h2 o0 o2 o4
            go_wp2_with fail
            go_ret
            exact ⟨rfl, FK.out.bl⟩
          · have t0 : (x 3 == -x 0) = true := by simp [h0]
            have d0 : decide (x 3 = -x 0) = true := by simp [h0]
            have t1 : (x 4 == -x 1) = true := by simp [h1]
            have d1 : decide (x 4 = -x 1) = true := by simp [h1]
            have t2 : (x 5 == -x 2) = false := by simp [h2]
            have d2 : decide (x 5 = -x 2) = false := by simp [h2]
            clear h0 h1 h2
            go_wp2_with fail
            go_ret
            exact ⟨rfl, FK.out.bl⟩
        · have t0 : (x 3 == -x 0) = true := by simp [h0]
          have d0 : decide (x 3 = -x 0) = true := by simp [h0]
          have t1 : (x 4 == -x 1) = false := by simp [h1]
          have d1 : decide (x 4 = -x 1) = false := by simp [h1]
          clear h0 h1
          go_wp2_with fail
          go_ret
          exact ⟨rfl, FK.out.bl⟩
      · have t0 : (x 3 == -x 0) = false := by simp [h0]
        have d0 : decide (x 3 = -x 0) = false := by simp [h0]
        clear h0
        go_wp2_with fail
        go_ret
        exact ⟨rfl, FK.out.bl⟩
theorem StatorHarmonics_any (x : Nat → Int) (hz : ∀ i, 6 ≤ i → x i = 0) (w : World) (hT : Tab w) : Calls Tryd.prog 4 #[.agg #[.int .i64 (x 0), .int .i64 (x 1), .int .i64 (x 2), .int .i64 (x 3), .int .i64 (x 4), .int .i64 (x 5)]] w fun e w' => e = .returned (.bool true) ∧ Below w.heap.size w w' := by
  cases h : ok6 x with
  | true => exact harm_ok x h hz w hT
  | false => exact harm_bad x h w hT
end Go.Proofs.YtohldmmfnjfgmaaDoor
