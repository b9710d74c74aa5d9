
/-
  The walks of the reference's Root and RootUp.
-/
import Derived.Test.YtmjooiocgeoaiaaBRtP
namespace Go.Proofs.Ytmjooiocgeoaiaa
open Go.RowKit

/-- What the loop of Root keeps: r and the bit that is tried next. -/
def RB (q : Int) (r B : Nat) : Prop := ∃ j : Nat, B = 2 ^ j / 2 ∧ r + 2 ^ j ≤ 2147483648 ∧ (r : Int) * r ≤ q ∧ q < ((r + 2 ^ j : Nat) : Int) * ((r + 2 ^ j : Nat) : Int)
theorem rb_start {q : Int} (h : 0 ≤ q ∧ q ≤ 20000000000) : RB q 0 1073741824 := ⟨31, by decide, by decide, by simpa using h.1, by
  have e : (((0 + 2 ^ 31 : Nat) : Nat) : Int) = 2147483648 := by decide
  rw [e]
  omega⟩
theorem rb_pow {j B : Nat} (hB : B = 2 ^ j / 2) (h0 : 0 < B) : ∃ i, j = i + 1 ∧ B = 2 ^ i := by
  cases j with
  | zero => subst hB; simp at h0
  | succ i => exact ⟨i, rfl, by rw [hB, Nat.pow_succ, Nat.mul_div_cancel _ (by decide)]⟩
theorem rb_bound {q : Int} {r B : Nat} (h : RB q r B) : r + B ≤ 2147483648 := by
  obtain ⟨j, h1, h2, _⟩ := h
  have : 2 ^ j / 2 ≤ 2 ^ j := Nat.div_le_self _ _
  omega
theorem rb_yes {q : Int} {r B : Nat} (h : RB q r B) (h0 : 0 < B) (hc : ((r + B : Nat) : Int) * ((r + B : Nat) : Int) ≤ q) : RB q (r + B) (B / 2) := by
  obtain ⟨j, h1, h2, _, h4⟩ := h
  obtain ⟨i, rfl, rfl⟩ := rb_pow h1 h0
  refine ⟨i, rfl, ?_, hc, ?_⟩
  · rw [Nat.pow_succ] at h2; omega
  · rw [Nat.pow_succ, show r + 2 ^ i * 2 = r + 2 ^ i + 2 ^ i by omega] at h4; exact h4
theorem rb_no {q : Int} {r B : Nat} (h : RB q r B) (h0 : 0 < B) (hc : q < ((r + B : Nat) : Int) * ((r + B : Nat) : Int)) : RB q r (B / 2) := by
  obtain ⟨j, h1, h2, h3, _⟩ := h
  obtain ⟨i, rfl, rfl⟩ := rb_pow h1 h0
  refine ⟨i, rfl, ?_, h3, hc⟩
  rw [Nat.pow_succ] at h2; omega
theorem rb_end {q : Int} {r : Nat} (h : RB q r 0) : (r : Int) * r ≤ q ∧ q < ((r : Int) + 1) * ((r : Int) + 1) := by
  obtain ⟨j, h1, _, h3, h4⟩ := h
  cases j with
  | zero => exact ⟨h3, by simpa using h4⟩
  | succ i =>
    rw [Nat.pow_succ, Nat.mul_div_cancel _ (by decide)] at h1
    have : 0 < 2 ^ i := Nat.pow_pos (by decide)
    omega

set_option maxHeartbeats 3200000 in
set_option maxRecDepth 100000 in
theorem Root_any (q : Int) (hq : 0 ≤ q ∧ q ≤ 20000000000) (w : World) :
    Calls Try.prog 61 #[.int .i64 q] w fun e w' => e = .returned (.int .i64 (rtL q)) ∧ w = w' := by
  have HST := Lib.hid (rb_start hq)
  obtain ⟨q0, q1⟩ := hq
  go_enter Try.func61, Try.ntmps61
  go_wp2_with fail
  go_loop [3, 4] (fun s3 s4 => ∃ r B : Nat, s3 = .int .i64 r ∧ s4 = .int .i64 B ∧ Hid (RB q r B)) (fun _ s4 => (intOf s4).toNat)
  case atStart => exact ⟨0, 1073741824, rfl, rfl, HST⟩
  case round =>
    obtain ⟨r, B, rfl, rfl, I⟩ := hrel
    have hb := rb_bound I.out
    by_cases h0 : 0 < B
    · have h0i : (0 : Int) < (B : Int) := by omega
      obtain ⟨s, hs⟩ : ∃ s : Nat, s = r + B := ⟨_, rfl⟩
      have hw1 := (IntWalk.i64_in ((r : Int) + (B : Int)) (by omega)).trans (show (r : Int) + (B : Int) = (s : Int) by omega)
      have hs2 : s ≤ 2147483648 := by omega
      have h1 : (s : Int) * s ≤ 2147483648 * 2147483648 := Int.mul_le_mul (by omega) (by omega) (by omega) (by omega)
      have h2 : (0 : Int) ≤ (s : Int) * s := Int.mul_nonneg (by omega) (by omega)
      obtain ⟨m, hm⟩ : ∃ m, (s : Int) * s = m := ⟨_, rfl⟩
      have hw2 := (IntWalk.i64_in ((s : Int) * s) (by omega)).trans hm
      have hw3 := IntWalk.i64_in ((B : Int) / 2) (by omega)
      have HS := Lib.hid hs
      have HM := Lib.hid hm
      by_cases hc : m ≤ q
      · have I2 : Hid (RB q s (B / 2)) := Lib.hid (by rw [hs]; exact rb_yes I.out h0 (by rw [← hs, hm]; exact hc))
        clear hs h1 h2 hm I
        go_wp2_with fail
        go_round
        case rel => exact ⟨s, B / 2, rfl, by first | rfl | (apply congrArg; omega) | simp, I2⟩
        case measure => simp [intOf] <;> omega
      · have I2 : Hid (RB q r (B / 2)) := Lib.hid (rb_no I.out h0 (by rw [← hs, hm]; omega))
        clear hs h1 h2 hm I
        go_wp2_with fail
        go_round
        case rel => exact ⟨r, B / 2, rfl, by first | rfl | (apply congrArg; omega) | simp, I2⟩
        case measure => simp [intOf] <;> omega
    · obtain rfl : B = 0 := by omega
      have HE := Lib.hid (rt_of_floor (rb_end I.out).1 (rb_end I.out).2).1
      clear I h0
      go_wp2_with fail
      go_ret
      exact ⟨ret_i64 HE.out, rfl⟩

set_option maxHeartbeats 3200000 in
set_option maxRecDepth 100000 in
theorem RootUp_any (q : Int) (hq : 0 ≤ q ∧ q ≤ 20000000000) (w : World) :
    Calls Try.prog 59 #[.int .i64 q] w fun e w' => e = .returned (.int .i64 (rtU q : Int)) ∧ w = w' := by
  have hbd := rt_bound hq
  have HQ := Lib.hid hq
  obtain ⟨r, hr⟩ : ∃ r, rtL q = r := ⟨_, rfl⟩
  have HR := Lib.hid hr
  have hU : (rtU q : Int) = if r * r < q then r + 1 else r := by
    have h2 := (rtU_spec q).1
    rw [← hr]
    unfold rtL
    split
    · rename_i h
      rw [if_neg (by omega)]
    · rename_i h
      have h4 := (rtU_spec q).2
      by_cases h0 : rtU q = 0
      · exfalso; rw [h0] at h2 h; simp at h2 h; have := hq.1; omega
      · have h5 := h4 (rtU q - 1) (by omega)
        rw [show ((rtU q - 1 : Nat) : Int) = (rtU q : Int) - 1 by omega] at h5
        rw [if_pos h5]
        omega
  rw [hr] at hbd
  have h1 : r * r ≤ 141422 * 141422 := Int.mul_le_mul (by omega) (by omega) (by omega) (by omega)
  have h2 : (0 : Int) ≤ r * r := Int.mul_nonneg (by omega) (by omega)
  have hw := IntWalk.i64_in (r * r) (by omega)
  have hw2 := IntWalk.i64_in (r + 1) (by omega)
  have HU := Lib.hid hU
  by_cases hc : r * r < q
  · have HV : Hid ((rtU q : Int) = r + 1) := Lib.hid (by rw [hU, if_pos hc])
    clear hU hr hq hbd
    go_enter Try.func59, Try.ntmps59
    go_wp2_with fail
    refine (Root_any q HQ.out _).mono ?_
    rintro e w1 ⟨rfl, rfl⟩
    rw [HR.out]
    go_wp2_with fail
    go_ret
    exact ⟨ret_i64 HV.out.symm, rfl⟩
  · have HV : Hid ((rtU q : Int) = r) := Lib.hid (by rw [hU, if_neg hc])
    clear hU hr hq hbd
    go_enter Try.func59, Try.ntmps59
    go_wp2_with fail
    refine (Root_any q HQ.out _).mono ?_
    rintro e w1 ⟨rfl, rfl⟩
    rw [HR.out]
    go_wp2_with fail
    go_ret
    exact ⟨ret_i64 HV.out.symm, rfl⟩
end Go.Proofs.Ytmjooiocgeoaiaa
