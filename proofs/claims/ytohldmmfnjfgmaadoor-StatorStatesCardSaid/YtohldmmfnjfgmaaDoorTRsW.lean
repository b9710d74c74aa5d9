
/-
  The walks of the errors of wants, and of IsNear.
-/
import Derived.Test.YtohldmmfnjfgmaaDoorTRsP
import Derived.Test.YtohldmmfnjfgmaaDoorTEven
namespace Go.Proofs.YtohldmmfnjfgmaaDoor
open Go.RowKit

set_option maxHeartbeats 800000 in
theorem ScaleErr_any (M : Int) (w : World) : Calls Tryd.prog 25 #[.int .i64 M] w fun e w' => e = .returned (.int .i64 (if inB M 1 100000 = true then 0 else 2)) ∧ w = w' := by
  cases h : inB M 1 100000
  all_goals
    have HH := Lib.hid h
    go_enter Tryd.func25, Tryd.ntmps25
    go_wp2_with (go_at_call 18; refine (Within_any _ _ _ _).mono ?_; rintro e w' ⟨rfl, rfl⟩; rw [HH.out])
    go_ret
    exact ⟨rfl, rfl⟩
/-- The error of few wants. -/
def wntE (M : Int) (ws : List T3) : Int := if inB M 1 100000 = true then vsE ws else 2
set_option maxHeartbeats 800000 in
theorem WantsErr_any (M : Int) (ws : List T3) (A : Option Addr) (c : Nat) (hl : ws.length ≤ 20) (w : World) (hA : Lies w w.heap.size A (ws.flatMap tc)) : Calls Tryd.prog 31 #[.int .i64 M, .slice A ws.length c] w fun e w' => e = .returned (.int .i64 (wntE M ws)) ∧ Below w.heap.size w w' := by
  have HA := Lib.hid hA
  have hl60 : ¬ (60 : Int) < (ws.length : Int) := by omega
  have hld : decide ((60 : Int) < (ws.length : Int)) = false := by simp; omega
  clear hA
  cases h : inB M 1 100000 with
  | false =>
    have HE : Hid (wntE M ws = 2) := Lib.hid (by unfold wntE; rw [if_neg (by rw [h]; simp)])
    have HS : Hid (∀ w, Calls Tryd.prog 25 #[.int .i64 M] w fun e w' => e = .returned (.int .i64 2) ∧ w = w') := Lib.hid (fun w => by have := ScaleErr_any M w; rw [if_neg (by rw [h]; simp)] at this; exact this)
    clear h
    go_enter Tryd.func31, Tryd.ntmps31
    go_wp2_with (go_at_call 25; refine (HS.out _).mono ?_; rintro e w' ⟨rfl, rfl⟩)
    go_ret
    exact ⟨ret_i64 HE.out.symm, Below.refl _ _⟩
  | true =>
    have HE : Hid (wntE M ws = vsE ws) := Lib.hid (by unfold wntE; rw [if_pos h])
    have HS : Hid (∀ w, Calls Tryd.prog 25 #[.int .i64 M] w fun e w' => e = .returned (.int .i64 0) ∧ w = w') := Lib.hid (fun w => by have := ScaleErr_any M w; rw [if_pos h] at this; exact this)
    clear h
    go_enter Tryd.func31, Tryd.ntmps31
    go_wp2_with (go_at_call 25; refine (HS.out _).mono ?_; rintro e w' ⟨rfl, rfl⟩)
    refine (VectorsErr_any ws A c (by unfold maxLen; omega) _ HA.out).mono ?_
    rintro e w1 ⟨rfl, hb1⟩
    go_wp2_with fail
    go_ret
    exact ⟨ret_i64 HE.out.symm, hb1⟩

set_option maxHeartbeats 800000 in
theorem checkScaled_ok (M : Int) (v : T3) (hM : inB M 1 100000 = true) (hv : okT v = true) (w : World) : Calls Tryd.prog 62 #[.int .i64 M, (.agg #[.int .i64 v.a, .int .i64 v.b])] w fun e w' => e = .returned (.int .i64 0) ∧ Below w.heap.size w w' := by
  have F0 := Lib.hid (Fr.b1 w 24 #[.int .i64 v.a, .int .i64 v.b])
  have HS : Hid (∀ w, Calls Tryd.prog 67 #[.int .i64 M] w fun e w' => e = .returned (.int .i64 0) ∧ w = w') := Lib.hid (fun w => by have := checkScale_any M w; rw [if_pos hM] at this; exact this)
  have HV := Lib.hid (vE_ok hv)
  clear hM hv
  go_enter Tryd.func62, Tryd.ntmps62
  go_wp2_with (go_at_call 67; refine (HS.out _).mono ?_; rintro e w' ⟨rfl, rfl⟩)
  refine (checkVector_any v _).mono ?_
  rintro e w1 ⟨rfl, hb1⟩
  rw [HV.out]
  first
    | (have F1 := Lib.hid (F0.out.call hb1); clear hb1; go_wp2_with fail; go_ret; exact ⟨rfl, F1.out.bl⟩)
    | (go_wp2_with fail; go_ret; exact ⟨rfl, hb1⟩)

theorem idx3_0 (x y z : Int) (W : World) : (Instr.index 73 (.agg #[.int .i64 x, .int .i64 y, .int .i64 z]) (.int .i64 0)).run Tryd.prog W = .ok (.int .i64 x) W := by kernel_rfl
theorem idx3_1 (x y z : Int) (W : World) : (Instr.index 73 (.agg #[.int .i64 x, .int .i64 y, .int .i64 z]) (.int .i64 1)).run Tryd.prog W = .ok (.int .i64 y) W := by kernel_rfl
theorem idx3_2 (x y z : Int) (W : World) : (Instr.index 73 (.agg #[.int .i64 x, .int .i64 y, .int .i64 z]) (.int .i64 2)).run Tryd.prog W = .ok (.int .i64 z) W := by kernel_rfl
theorem near_no {M : Int} {v : T3} (h : M < max (2 * v.a - v.b) (-(2 * v.a - v.b)) ∨ M < max (2 * v.b - v.a) (-(2 * v.b - v.a)) ∨ M < max (-v.a - v.b) (-(-v.a - v.b))) : nearB M v = false := by
  cases hn : nearB M v with
  | false => rfl
  | true => have := nearB_iff.1 hn; omega
theorem near_yes {M : Int} {v : T3} (h0 : max (2 * v.a - v.b) (-(2 * v.a - v.b)) ≤ M) (h1 : max (2 * v.b - v.a) (-(2 * v.b - v.a)) ≤ M) (h2 : max (-v.a - v.b) (-(-v.a - v.b)) ≤ M) : nearB M v = true := nearB_iff.2 (by omega)
set_option maxHeartbeats 2000000 in
theorem IsNear_ok (M : Int) (v : T3) (hM : inB M 1 100000 = true) (hv : okT v = true) (w : World) : Calls Tryd.prog 23 #[.int .i64 M, (.agg #[.int .i64 v.a, .int .i64 v.b])] w fun e w' => e = .returned (.tuple #[.bool (nearB M v), .int .i64 0]) ∧ Below w.heap.size w w' := by
  have F0 := Lib.hid (Fr.b1 w 24 #[.int .i64 v.a, .int .i64 v.b])
  have HS := Lib.hid (checkScaled_ok M v hM hv)
  have hb := okT_bd hv
  have HP := Lib.hid (phases_any v (hb.more (by omega)))
  obtain ⟨a0, a1, b0, b1⟩ := hb
  obtain ⟨x, hx⟩ : ∃ x, 2 * v.a - v.b = x := ⟨_, rfl⟩
  obtain ⟨y, hy⟩ : ∃ y, 2 * v.b - v.a = y := ⟨_, rfl⟩
  obtain ⟨z, hz⟩ : ∃ z, -v.a - v.b = z := ⟨_, rfl⟩
  have HN : Hid ((M < max x (-x) ∨ M < max y (-y) ∨ M < max z (-z)) → nearB M v = false) := Lib.hid (by rw [← hx, ← hy, ← hz]; exact near_no)
  have HY : Hid (max x (-x) ≤ M → max y (-y) ≤ M → max z (-z) ≤ M → nearB M v = true) := Lib.hid (by rw [← hx, ← hy, ← hz]; exact near_yes)
  have x0 : -1000000 ≤ x ∧ x ≤ 1000000 := by omega
  have y0 : -1000000 ≤ y ∧ y ≤ 1000000 := by omega
  have z0 : -1000000 ≤ z ∧ z ≤ 1000000 := by omega
  rw [hx, hy, hz] at HP
  have HZ : Hid (∀ (u : Int) (w : World), -1000000 ≤ u ∧ u ≤ 1000000 → Calls Tryd.prog 64 #[.int .i64 u] w fun e w' => e = .returned (.int .i64 (max u (-u))) ∧ w = w') := Lib.hid (fun u w h => size_any u (by omega) (by omega) w)
  clear hM hv hx hy hz a0 a1 b0 b1
  go_enter Tryd.func23, Tryd.ntmps23
  go_wp2_with fail
  refine (HS.out _).mono ?_
  rintro e w1 ⟨rfl, hb1⟩
  have F1 := Lib.hid (F0.out.call hb1)
  obtain ⟨c0, c1, _, _⟩ := F1.out.top.two
  have z1 := F1.out.top.lt
  clear hb1 F0
  go_wp2_with fail
  refine (HP.out _).mono ?_
  rintro e w2 ⟨rfl, hb2⟩
  have F2 := Lib.hid (F1.out.call hb2)
  clear hb2 F1 c0 c1 z1
  go_wp2_with fail
  go_loop [17] (fun i => ∃ k : Nat, k ≤ 3 ∧ i = .int .i64 k ∧ (0 < k → max x (-x) ≤ M) ∧ (1 < k → max y (-y) ≤ M) ∧ (2 < k → max z (-z) ≤ M)) (fun i => 3 - (intOf i).toNat)
  case atStart => exact ⟨0, by omega, rfl, by omega, by omega, by omega⟩
  case round =>
    obtain ⟨k, hk, rfl, p0, p1, p2⟩ := hrel
    have P0 := Lib.hid p0
    have P1 := Lib.hid p1
    have P2 := Lib.hid p2
    clear p0 p1 p2
    rcases (by omega : k = 0 ∨ k = 1 ∨ k = 2 ∨ k = 3) with rfl | rfl | rfl | rfl
    · have i0 := idx3_0 x y z
      by_cases h : M < max x (-x)
      · have HH := Lib.hid (HN.out (.inl h))
        go_wp2_with (go_at_call 64; refine (HZ.out _ _ (by assumption)).mono ?_; rintro e w' ⟨rfl, rfl⟩)
        go_ret2
        exact ⟨by rw [HH.out] <;> rfl, F2.out.bl⟩
      · have h' := Int.not_lt.1 h
        have HH := Lib.hid h'
        clear h
        have h := Int.not_lt.2 h'
        go_wp2_with (go_at_call 64; refine (HZ.out _ _ (by assumption)).mono ?_; rintro e w' ⟨rfl, rfl⟩)
        go_round
        case rel => exact ⟨1, by omega, by go_num, fun _ => HH.out, by omega, by omega⟩
        case measure => simp [intOf]
    · have i0 := idx3_1 x y z
      by_cases h : M < max y (-y)
      · have HH := Lib.hid (HN.out (.inr (.inl h)))
        go_wp2_with (go_at_call 64; refine (HZ.out _ _ (by assumption)).mono ?_; rintro e w' ⟨rfl, rfl⟩)
        go_ret2
        exact ⟨by rw [HH.out] <;> rfl, F2.out.bl⟩
      · have h' := Int.not_lt.1 h
        have HH := Lib.hid h'
        clear h
        have h := Int.not_lt.2 h'
        go_wp2_with (go_at_call 64; refine (HZ.out _ _ (by assumption)).mono ?_; rintro e w' ⟨rfl, rfl⟩)
        go_round
        case rel => exact ⟨2, by omega, by go_num, fun _ => P0.out (by omega), fun _ => HH.out, by omega⟩
        case measure => simp [intOf]
    · have i0 := idx3_2 x y z
      by_cases h : M < max z (-z)
      · have HH := Lib.hid (HN.out (.inr (.inr h)))
        go_wp2_with (go_at_call 64; refine (HZ.out _ _ (by assumption)).mono ?_; rintro e w' ⟨rfl, rfl⟩)
        go_ret2
        exact ⟨by rw [HH.out] <;> rfl, F2.out.bl⟩
      · have h' := Int.not_lt.1 h
        have HH := Lib.hid h'
        clear h
        have h := Int.not_lt.2 h'
        go_wp2_with (go_at_call 64; refine (HZ.out _ _ (by assumption)).mono ?_; rintro e w' ⟨rfl, rfl⟩)
        go_round
        case rel => exact ⟨3, by omega, by go_num, fun _ => P0.out (by omega), fun _ => P1.out (by omega), fun _ => HH.out⟩
        case measure => simp [intOf]
    · have HH := Lib.hid (HY.out (P0.out (by omega)) (P1.out (by omega)) (P2.out (by omega)))
      go_wp2_with fail
      go_ret2
      exact ⟨by rw [HH.out] <;> rfl, F2.out.bl⟩
end Go.Proofs.YtohldmmfnjfgmaaDoor
