
/-
  The walks of OrdersOf, EnergyOf and of the errors of samples.
-/
import Derived.Test.YtohldmmfnjfgmaaDoorTHrB
import Derived.Test.YtohldmmfnjfgmaaDoorTAwk
namespace Go.Proofs.YtohldmmfnjfgmaaDoor
open Go.RowKit

/-- Are six samples right? -/
def ok6 (x : Nat → Int) : Bool := inB (x 0) (-100000) 100000 && inB (x 1) (-100000) 100000 && inB (x 2) (-100000) 100000 && inB (x 3) (-100000) 100000 && inB (x 4) (-100000) 100000 && inB (x 5) (-100000) 100000
theorem sz6 (x : Nat → Int) : szE 100000 [x 0, x 1, x 2, x 3, x 4, x 5] = if ok6 x = true then 0 else 2 := by unfold szE ok6; simp [and_assoc]
theorem ok6_in {x : Nat → Int} (h : ok6 x = true) (hz : ∀ i, 6 ≤ i → x i = 0) (i : Nat) : -100000 ≤ x i ∧ x i ≤ 100000 := by
  simp only [ok6, Bool.and_eq_true, inB_iff] at h
  rcases (by omega : i = 0 ∨ i = 1 ∨ i = 2 ∨ i = 3 ∨ i = 4 ∨ i = 5 ∨ 6 ≤ i) with rfl | rfl | rfl | rfl | rfl | rfl | h6
  · omega
  · omega
  · omega
  · omega
  · omega
  · omega
  · rw [hz i h6]; omega
/-- The samples as vectors, the first k of them. -/
def smpV (x : Nat → Int) (k j : Nat) : T3 := if j < k then realV x j else T3.zero
theorem smp_next (x : Nat → Int) (k : Nat) : updT (smpV x k) k (realV x k) = smpV x (k + 1) := by
  funext j
  unfold updT smpV
  by_cases h : j = k
  · subst h; simp
  · by_cases h2 : j < k
    · rw [if_neg h, if_pos h2, if_pos (by omega)]
    · rw [if_neg h, if_neg h2, if_neg (by omega)]
theorem smp_zero (x : Nat → Int) : (#[.int .i64 (smpV x 0 0).a, .int .i64 (smpV x 0 0).b, .int .i64 (smpV x 0 1).a, .int .i64 (smpV x 0 1).b, .int .i64 (smpV x 0 2).a, .int .i64 (smpV x 0 2).b, .int .i64 (smpV x 0 3).a, .int .i64 (smpV x 0 3).b, .int .i64 (smpV x 0 4).a, .int .i64 (smpV x 0 4).b, .int .i64 (smpV x 0 5).a, .int .i64 (smpV x 0 5).b] : Array Value) = #[.int .i64 0, .int .i64 0, .int .i64 0, .int .i64 0, .int .i64 0, .int .i64 0, .int .i64 0, .int .i64 0, .int .i64 0, .int .i64 0, .int .i64 0, .int .i64 0] := by
  simp [smpV, T3.zero]
theorem tsum_same {f g : Nat → T3} {way : Int} {k : Nat} : ∀ n : Nat, (∀ i, i < n → f i = g i) → tsum f way k n = tsum g way k n
  | 0, _ => rfl
  | n + 1, h => by rw [tsum, tsum, tsum_same n (fun i hi => h i (by omega)), h n (by omega)]
theorem ord_of (x : Nat → Int) (k : Nat) (hk : k < 6) : sumsV (smpV x 6) (-1) 6 0 k = ordV x k := by
  rw [sums_all _ _ _ hk]
  exact tsum_same 6 (fun i hi => by unfold smpV; rw [if_pos hi])
theorem smp_in {x : Nat → Int} (h : ok6 x = true) (hz : ∀ i, 6 ≤ i → x i = 0) (i : Nat) : (smpV x 6 i).In 2000000 := by
  have := ok6_in h hz i
  unfold smpV
  split
  · exact ⟨by simp only [realV]; omega, by simp only [realV]; omega, by simp only [realV]; omega, by simp only [realV]; omega, by simp only [realV]; omega, by simp only [realV]; omega⟩
  · exact ⟨by simp [T3.zero], by simp [T3.zero], by simp [T3.zero], by simp [T3.zero], by simp [T3.zero], by simp [T3.zero]⟩
theorem Lies.bk6' {w : World} {g : Nat} {t : TypeId} {x : Nat → Int} (h : Bk w g t #[.int .i64 (x 0), .int .i64 (x 1), .int .i64 (x 2), .int .i64 (x 3), .int .i64 (x 4), .int .i64 (x 5)]) : Lies w w.heap.size (some ⟨g, 0, none⟩) (ic [x 0, x 1, x 2, x 3, x 4, x 5]) := Lies.bk6 h

set_option maxHeartbeats 1000000 in
theorem SamplesErr_any (x : Nat → Int) (w : World) : Calls Tryd.prog 13 #[.agg #[.int .i64 (x 0), .int .i64 (x 1), .int .i64 (x 2), .int .i64 (x 3), .int .i64 (x 4), .int .i64 (x 5)]] w fun e w' => e = .returned (.int .i64 (if ok6 x = true then 0 else 2)) ∧ Below w.heap.size w w' := by
  have B0 := Lib.hid (box1 w #[.int .i64 (x 0), .int .i64 (x 1), .int .i64 (x 2), .int .i64 (x 3), .int .i64 (x 4), .int .i64 (x 5)] 22)
  have L0 := Lib.hid (Lies.bk6' (Bk.new w 22 #[.int .i64 (x 0), .int .i64 (x 1), .int .i64 (x 2), .int .i64 (x 3), .int .i64 (x 4), .int .i64 (x 5)]))
  rw [← sz6]
  go_enter Tryd.func13, Tryd.ntmps13
  go_wp2_with fail
  refine (numbersErr_any [x 0, x 1, x 2, x 3, x 4, x 5] _ _ (by simp [maxLen]) _ L0.out).mono ?_
  rintro e w' ⟨rfl, rfl⟩
  go_wp2_with fail
  go_ret
  exact ⟨rfl, B0.out⟩

set_option maxHeartbeats 4000000 in
set_option maxRecDepth 100000 in
theorem OrdersOf_ok (x : Nat → Int) (h : ok6 x = true) (hz : ∀ i, 6 ≤ i → x i = 0) (w : World) : Calls Tryd.prog 10 #[.agg #[.int .i64 (x 0), .int .i64 (x 1), .int .i64 (x 2), .int .i64 (x 3), .int .i64 (x 4), .int .i64 (x 5)]] w fun e w' => e = .returned (.tuple #[.agg #[.int .i64 (ordV x 0).a, .int .i64 (ordV x 0).b, .int .i64 (ordV x 1).a, .int .i64 (ordV x 1).b, .int .i64 (ordV x 2).a, .int .i64 (ordV x 2).b, .int .i64 (ordV x 3).a, .int .i64 (ordV x 3).b, .int .i64 (ordV x 4).a, .int .i64 (ordV x 4).b, .int .i64 (ordV x 5).a, .int .i64 (ordV x 5).b], .int .i64 0]) ∧ Below w.heap.size w w' := by
  have L0 := Lib.hid (Lies.new (Lies.bk6' (Bk.new w 22 #[.int .i64 (x 0), .int .i64 (x 1), .int .i64 (x 2), .int .i64 (x 3), .int .i64 (x 4), .int .i64 (x 5)])) (.cells #[.int .i64 0, .int .i64 0, .int .i64 0, .int .i64 0, .int .i64 0, .int .i64 0, .int .i64 0, .int .i64 0, .int .i64 0, .int .i64 0, .int .i64 0, .int .i64 0] 25))
  have he : Hid (szE 100000 [x 0, x 1, x 2, x 3, x 4, x 5] = 0) := Lib.hid (by rw [sz6, if_pos h])
  have F0 : Hid (Fr w _ [(w.heap.size + 1 + 1, 25, #[.int .i64 (smpV x 0 0).a, .int .i64 (smpV x 0 0).b, .int .i64 (smpV x 0 1).a, .int .i64 (smpV x 0 1).b, .int .i64 (smpV x 0 2).a, .int .i64 (smpV x 0 2).b, .int .i64 (smpV x 0 3).a, .int .i64 (smpV x 0 3).b, .int .i64 (smpV x 0 4).a, .int .i64 (smpV x 0 4).b, .int .i64 (smpV x 0 5).a, .int .i64 (smpV x 0 5).b]), (w.heap.size + 1, 25, #[.int .i64 0, .int .i64 0, .int .i64 0, .int .i64 0, .int .i64 0, .int .i64 0, .int .i64 0, .int .i64 0, .int .i64 0, .int .i64 0, .int .i64 0, .int .i64 0]), (w.heap.size, 22, #[.int .i64 (x 0), .int .i64 (x 1), .int .i64 (x 2), .int .i64 (x 3), .int .i64 (x 4), .int .i64 (x 5)])]) := Lib.hid (by
    rw [smp_zero]
    exact Fr.b3 w 22 #[.int .i64 (x 0), .int .i64 (x 1), .int .i64 (x 2), .int .i64 (x 3), .int .i64 (x 4), .int .i64 (x 5)] 25 #[.int .i64 0, .int .i64 0, .int .i64 0, .int .i64 0, .int .i64 0, .int .i64 0, .int .i64 0, .int .i64 0, .int .i64 0, .int .i64 0, .int .i64 0, .int .i64 0] 25 #[.int .i64 0, .int .i64 0, .int .i64 0, .int .i64 0, .int .i64 0, .int .i64 0, .int .i64 0, .int .i64 0, .int .i64 0, .int .i64 0, .int .i64 0, .int .i64 0])
  have HT := Lib.hid (turnedSums_any (smpV x 6) (-1) (.inr rfl) (smp_in h hz))
  have HO := Lib.hid (ord_of x)
  clear h hz
  go_enter Tryd.func10, Tryd.ntmps10
  go_wp2_with fail
  refine (checkSizes_any 100000 (by omega) [x 0, x 1, x 2, x 3, x 4, x 5] _ _ (by simp [maxLen]) _ L0.out).mono ?_
  rintro e w' ⟨rfl, rfl⟩
  rw [he.out]
  go_wp2_with fail
  go_loopw [15] (fun i wr => ∃ k : Nat, k ≤ 6 ∧ i = .int .i64 k ∧ Fr w wr [(w.heap.size + 1 + 1, 25, #[.int .i64 (smpV x k 0).a, .int .i64 (smpV x k 0).b, .int .i64 (smpV x k 1).a, .int .i64 (smpV x k 1).b, .int .i64 (smpV x k 2).a, .int .i64 (smpV x k 2).b, .int .i64 (smpV x k 3).a, .int .i64 (smpV x k 3).b, .int .i64 (smpV x k 4).a, .int .i64 (smpV x k 4).b, .int .i64 (smpV x k 5).a, .int .i64 (smpV x k 5).b]), (w.heap.size + 1, 25, #[.int .i64 0, .int .i64 0, .int .i64 0, .int .i64 0, .int .i64 0, .int .i64 0, .int .i64 0, .int .i64 0, .int .i64 0, .int .i64 0, .int .i64 0, .int .i64 0]), (w.heap.size, 22, #[.int .i64 (x 0), .int .i64 (x 1), .int .i64 (x 2), .int .i64 (x 3), .int .i64 (x 4), .int .i64 (x 5)])]) (fun i _ => 6 - (intOf i).toNat)
  case atStart => exact ⟨0, by omega, rfl, F0.out⟩
  case round =>
    obtain ⟨k, hk, rfl, hfr⟩ := hrel
    have FK := Lib.hid hfr
    clear hfr F0
    by_cases hlt : k < 6
    · have hk6 := hlt
      have hlt' : (k : Int) < 6 := by omega
      have i0 := idxI x hlt
      obtain ⟨c0, c1⟩ := FK.out.tcell hk6
      have g0 := FK.out.top.frozen (k * 2)
      have g1 := FK.out.top.frozen (k * 2 + 1)
      go_wp2_with fail
      go_roundw
      case rel => exact ⟨k + 1, by omega, by go_num, by
        have h := FK.out.putT hk6 (realV x k) (by omega) (by first | (simp; done) | (simp; omega))
        rw [smp_next] at h
        exact h⟩
      case measure => simp [intOf]; omega
    · obtain rfl : k = 6 := by omega
      have v0 := FK.out.top.cell 0
      have v1 := FK.out.top.cell 1
      have v2 := FK.out.top.cell 2
      have v3 := FK.out.top.cell 3
      have v4 := FK.out.top.cell 4
      have v5 := FK.out.top.cell 5
      have v6 := FK.out.top.cell 6
      have v7 := FK.out.top.cell 7
      have v8 := FK.out.top.cell 8
      have v9 := FK.out.top.cell 9
      have v10 := FK.out.top.cell 10
      have v11 := FK.out.top.cell 11
      go_wp2_with fail
      refine (HT.out _).mono ?_
      rintro e w1 ⟨rfl, hb1⟩
      have F1 := Lib.hid (FK.out.call hb1)
      clear hb1 FK v0 v1 v2 v3 v4 v5 v6 v7 v8 v9 v10 v11
      rw [HO.out 0 (by omega), HO.out 1 (by omega), HO.out 2 (by omega), HO.out 3 (by omega), HO.out 4 (by omega), HO.out 5 (by omega)]
      have r0 := F1.out.at1.cell 0
      have r1 := F1.out.at1.cell 1
      have r2 := F1.out.at1.cell 2
      have r3 := F1.out.at1.cell 3
      have r4 := F1.out.at1.cell 4
      have r5 := F1.out.at1.cell 5
      have r6 := F1.out.at1.cell 6
      have r7 := F1.out.at1.cell 7
      have r8 := F1.out.at1.cell 8
      have r9 := F1.out.at1.cell 9
      have r10 := F1.out.at1.cell 10
      have r11 := F1.out.at1.cell 11
      have g0 := F1.out.at1.frozen 0
      have g1 := F1.out.at1.frozen 1
      have g2 := F1.out.at1.frozen 2
      have g3 := F1.out.at1.frozen 3
      have g4 := F1.out.at1.frozen 4
      have g5 := F1.out.at1.frozen 5
      have g6 := F1.out.at1.frozen 6
      have g7 := F1.out.at1.frozen 7
      have g8 := F1.out.at1.frozen 8
      have g9 := F1.out.at1.frozen 9
      have g10 := F1.out.at1.frozen 10
      have g11 := F1.out.at1.frozen 11
      go_wp2_with fail
      refine wpQ_abs (Q := bodyPost _ _ _) ?_
      intro W' hW'
      have B2 : Bk W' (w.heap.size + 1) 25 #[.int .i64 (ordV x 0).a, .int .i64 (ordV x 0).b, .int .i64 (ordV x 1).a, .int .i64 (ordV x 1).b, .int .i64 (ordV x 2).a, .int .i64 (ordV x 2).b, .int .i64 (ordV x 3).a, .int .i64 (ordV x 3).b, .int .i64 (ordV x 4).a, .int .i64 (ordV x 4).b, .int .i64 (ordV x 5).a, .int .i64 (ordV x 5).b] := by rw [← hW']; exact Bk.put12 F1.out.at1
      have BL := Lib.hid (show Below w.heap.size w W' by rw [← hW']; exact ((((((((((((F1.out.bl.setCell (by simp) _).setCell (by simp) _).setCell (by simp) _).setCell (by simp) _).setCell (by simp) _).setCell (by simp) _).setCell (by simp) _).setCell (by simp) _).setCell (by simp) _).setCell (by simp) _).setCell (by simp) _).setCell (by simp) _))
      clear hW'
      have q0 := B2.cell 0
      have q1 := B2.cell 1
      have q2 := B2.cell 2
      have q3 := B2.cell 3
      have q4 := B2.cell 4
      have q5 := B2.cell 5
      have q6 := B2.cell 6
      have q7 := B2.cell 7
      have q8 := B2.cell 8
      have q9 := B2.cell 9
      have q10 := B2.cell 10
      have q11 := B2.cell 11
      exact bodyPost_ret (v := .tuple #[.agg #[.int .i64 (ordV x 0).a, .int .i64 (ordV x 0).b, .int .i64 (ordV x 1).a, .int .i64 (ordV x 1).b, .int .i64 (ordV x 2).a, .int .i64 (ordV x 2).b, .int .i64 (ordV x 3).a, .int .i64 (ordV x 3).b, .int .i64 (ordV x 4).a, .int .i64 (ordV x 4).b, .int .i64 (ordV x 5).a, .int .i64 (ordV x 5).b], .int .i64 0]) (by simp [results, Tryd.results10, go_sem, q0, q1, q2, q3, q4, q5, q6, q7, q8, q9, q10, q11]) rfl ⟨rfl, BL.out⟩

set_option maxHeartbeats 4000000 in
set_option maxRecDepth 100000 in
theorem OrdersOf_bad (x : Nat → Int) (h : ok6 x = false) (w : World) : Calls Tryd.prog 10 #[.agg #[.int .i64 (x 0), .int .i64 (x 1), .int .i64 (x 2), .int .i64 (x 3), .int .i64 (x 4), .int .i64 (x 5)]] w fun e w' => e = .returned (.tuple #[.agg #[.int .i64 0, .int .i64 0, .int .i64 0, .int .i64 0, .int .i64 0, .int .i64 0, .int .i64 0, .int .i64 0, .int .i64 0, .int .i64 0, .int .i64 0, .int .i64 0], .int .i64 2]) ∧ Below w.heap.size w w' := by
  have L0 := Lib.hid (Lies.new (Lies.bk6' (Bk.new w 22 #[.int .i64 (x 0), .int .i64 (x 1), .int .i64 (x 2), .int .i64 (x 3), .int .i64 (x 4), .int .i64 (x 5)])) (.cells #[.int .i64 0, .int .i64 0, .int .i64 0, .int .i64 0, .int .i64 0, .int .i64 0, .int .i64 0, .int .i64 0, .int .i64 0, .int .i64 0, .int .i64 0, .int .i64 0] 25))
  have he : Hid (szE 100000 [x 0, x 1, x 2, x 3, x 4, x 5] = 2) := Lib.hid (by rw [sz6, if_neg (by rw [h]; simp)])
  have F0 := Lib.hid (Fr.b2 w 22 #[.int .i64 (x 0), .int .i64 (x 1), .int .i64 (x 2), .int .i64 (x 3), .int .i64 (x 4), .int .i64 (x 5)] 25 #[.int .i64 0, .int .i64 0, .int .i64 0, .int .i64 0, .int .i64 0, .int .i64 0, .int .i64 0, .int .i64 0, .int .i64 0, .int .i64 0, .int .i64 0, .int .i64 0])
  clear h
  go_enter Tryd.func10, Tryd.ntmps10
  go_wp2_with fail
  refine (checkSizes_any 100000 (by omega) [x 0, x 1, x 2, x 3, x 4, x 5] _ _ (by simp [maxLen]) _ L0.out).mono ?_
  rintro e w1 ⟨rfl, hw1⟩
  rw [he.out]
  have F1 : Hid (Fr w w1 [(w.heap.size + 1, 25, #[.int .i64 0, .int .i64 0, .int .i64 0, .int .i64 0, .int .i64 0, .int .i64 0, .int .i64 0, .int .i64 0, .int .i64 0, .int .i64 0, .int .i64 0, .int .i64 0]), (w.heap.size, 22, #[.int .i64 (x 0), .int .i64 (x 1), .int .i64 (x 2), .int .i64 (x 3), .int .i64 (x 4), .int .i64 (x 5)])]) := Lib.hid (by rw [← hw1]; exact F0.out)
  clear hw1 F0 L0
  have g0 := F1.out.top.frozen 0
  have g1 := F1.out.top.frozen 1
  have g2 := F1.out.top.frozen 2
  have g3 := F1.out.top.frozen 3
  have g4 := F1.out.top.frozen 4
  have g5 := F1.out.top.frozen 5
  have g6 := F1.out.top.frozen 6
  have g7 := F1.out.top.frozen 7
  have g8 := F1.out.top.frozen 8
  have g9 := F1.out.top.frozen 9
  have g10 := F1.out.top.frozen 10
  have g11 := F1.out.top.frozen 11
  have r0 := F1.out.top.cell 0
  have r1 := F1.out.top.cell 1
  have r2 := F1.out.top.cell 2
  have r3 := F1.out.top.cell 3
  have r4 := F1.out.top.cell 4
  have r5 := F1.out.top.cell 5
  have r6 := F1.out.top.cell 6
  have r7 := F1.out.top.cell 7
  have r8 := F1.out.top.cell 8
  have r9 := F1.out.top.cell 9
  have r10 := F1.out.top.cell 10
  have r11 := F1.out.top.cell 11
  go_wp2_with fail
  refine wpQ_abs (Q := bodyPost _ _ _) ?_
  intro W' hW'
  have B2 : Bk W' (w.heap.size + 1) 25 #[.int .i64 0, .int .i64 0, .int .i64 0, .int .i64 0, .int .i64 0, .int .i64 0, .int .i64 0, .int .i64 0, .int .i64 0, .int .i64 0, .int .i64 0, .int .i64 0] := by rw [← hW']; exact Bk.put12 F1.out.top
  have BL := Lib.hid (show Below w.heap.size w W' by rw [← hW']; exact ((((((((((((F1.out.bl.setCell (by simp) _).setCell (by simp) _).setCell (by simp) _).setCell (by simp) _).setCell (by simp) _).setCell (by simp) _).setCell (by simp) _).setCell (by simp) _).setCell (by simp) _).setCell (by simp) _).setCell (by simp) _).setCell (by simp) _))
  clear hW'
  have q0 := B2.cell 0
  have q1 := B2.cell 1
  have q2 := B2.cell 2
  have q3 := B2.cell 3
  have q4 := B2.cell 4
  have q5 := B2.cell 5
  have q6 := B2.cell 6
  have q7 := B2.cell 7
  have q8 := B2.cell 8
  have q9 := B2.cell 9
  have q10 := B2.cell 10
  have q11 := B2.cell 11
  exact bodyPost_ret (v := .tuple #[.agg #[.int .i64 0, .int .i64 0, .int .i64 0, .int .i64 0, .int .i64 0, .int .i64 0, .int .i64 0, .int .i64 0, .int .i64 0, .int .i64 0, .int .i64 0, .int .i64 0], .int .i64 2]) (by simp [results, Tryd.results10, go_sem, q0, q1, q2, q3, q4, q5, q6, q7, q8, q9, q10, q11]) rfl ⟨rfl, BL.out⟩

theorem en_in {x : Nat → Int} (h : ∀ i, -100000 ≤ x i ∧ x i ≤ 100000) : ∀ k : Nat, 0 ≤ enV x k ∧ enV x k ≤ k * 10000000000
  | 0 => by simp [enV]
  | k + 1 => by
    have ih := en_in h k
    have h1 := mulB (h k) (h k)
    have h2 := sq_nonneg (x k)
    simp only [enV]
    push_cast
    omega
set_option maxHeartbeats 2000000 in
set_option maxRecDepth 100000 in
theorem EnergyOf_ok (x : Nat → Int) (h : ok6 x = true) (hz : ∀ i, 6 ≤ i → x i = 0) (w : World) : Calls Tryd.prog 11 #[.agg #[.int .i64 (x 0), .int .i64 (x 1), .int .i64 (x 2), .int .i64 (x 3), .int .i64 (x 4), .int .i64 (x 5)]] w fun e w' => e = .returned (.tuple #[.int .i64 (enV x 6), .int .i64 0]) ∧ Below w.heap.size w w' := by
  have L0 := Lib.hid (Lies.bk6' (Bk.new w 22 #[.int .i64 (x 0), .int .i64 (x 1), .int .i64 (x 2), .int .i64 (x 3), .int .i64 (x 4), .int .i64 (x 5)]))
  have he : Hid (szE 100000 [x 0, x 1, x 2, x 3, x 4, x 5] = 0) := Lib.hid (by rw [sz6, if_pos h])
  have F0 := Lib.hid (Fr.b1 w 22 #[.int .i64 (x 0), .int .i64 (x 1), .int .i64 (x 2), .int .i64 (x 3), .int .i64 (x 4), .int .i64 (x 5)])
  have HI := Lib.hid (ok6_in h hz)
  clear h hz
  go_enter Tryd.func11, Tryd.ntmps11
  go_wp2_with fail
  refine (checkSizes_any 100000 (by omega) [x 0, x 1, x 2, x 3, x 4, x 5] _ _ (by simp [maxLen]) _ L0.out).mono ?_
  rintro e w' ⟨rfl, rfl⟩
  rw [he.out]
  go_wp2_with fail
  go_loop [5, 14] (fun s i => ∃ k : Nat, k ≤ 6 ∧ i = .int .i64 k ∧ s = .int .i64 (enV x k)) (fun _ i => 6 - (intOf i).toNat)
  case atStart => exact ⟨0, by omega, rfl, rfl⟩
  case round =>
    obtain ⟨k, hk, rfl, rfl⟩ := hrel
    by_cases hlt : k < 6
    · have hlt' : (k : Int) < 6 := by omega
      have i0 := idxI x hlt
      have h1 := mulB (HI.out k) (HI.out k)
      have h2 := en_in HI.out k
      obtain ⟨p, hp⟩ : ∃ p, x k * x k = p := ⟨_, rfl⟩
      have HS : Hid (enV x (k + 1) = enV x k + p) := Lib.hid (by rw [enV, hp])
      have w1 : IntKind.i64.wrap (x k * x k) = p := by rw [← hp]; exact IntWalk.i64_in _ ⟨by omega, by omega⟩
      rw [hp] at h1
      obtain ⟨h3, h4⟩ := h1
      obtain ⟨h5, h6⟩ := h2
      have h7 : enV x k ≤ 60000000000 := by omega
      clear hp h6
      go_wp2_with fail
      go_round
      case rel => exact ⟨k + 1, by omega, by go_num, by rw [HS.out]⟩
      case measure => simp [intOf]; omega
    · obtain rfl : k = 6 := by omega
      go_wp2_with fail
      go_ret2
      exact ⟨rfl, F0.out.bl⟩
set_option maxHeartbeats 1000000 in
theorem EnergyOf_bad (x : Nat → Int) (h : ok6 x = false) (w : World) : Calls Tryd.prog 11 #[.agg #[.int .i64 (x 0), .int .i64 (x 1), .int .i64 (x 2), .int .i64 (x 3), .int .i64 (x 4), .int .i64 (x 5)]] w fun e w' => e = .returned (.tuple #[.int .i64 0, .int .i64 2]) ∧ Below w.heap.size w w' := by
  have L0 := Lib.hid (Lies.bk6' (Bk.new w 22 #[.int .i64 (x 0), .int .i64 (x 1), .int .i64 (x 2), .int .i64 (x 3), .int .i64 (x 4), .int .i64 (x 5)]))
  have he : Hid (szE 100000 [x 0, x 1, x 2, x 3, x 4, x 5] = 2) := Lib.hid (by rw [sz6, if_neg (by rw [h]; simp)])
  have F0 := Lib.hid (Fr.b1 w 22 #[.int .i64 (x 0), .int .i64 (x 1), .int .i64 (x 2), .int .i64 (x 3), .int .i64 (x 4), .int .i64 (x 5)])
  clear h
  go_enter Tryd.func11, Tryd.ntmps11
  go_wp2_with fail
  refine (checkSizes_any 100000 (by omega) [x 0, x 1, x 2, x 3, x 4, x 5] _ _ (by simp [maxLen]) _ L0.out).mono ?_
  rintro e w' ⟨rfl, rfl⟩
  rw [he.out]
  go_wp2_with fail
  go_ret2
  exact ⟨rfl, F0.out.bl⟩
end Go.Proofs.YtohldmmfnjfgmaaDoor
