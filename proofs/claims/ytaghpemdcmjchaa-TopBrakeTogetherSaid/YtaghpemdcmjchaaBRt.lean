
/-
  The root of a square, rounded down and up.
-/
import Derived.Test.YtaghpemdcmjchaaBFs2
namespace Go.Proofs.Ytaghpemdcmjchaa
open Go.RowKit

theorem up_exists (q : Int) : ∀ n : Nat, q ≤ (n : Int) * n → ∃ u : Nat, u ≤ n ∧ q ≤ (u : Int) * u ∧ ∀ v : Nat, v < u → (v : Int) * v < q
  | 0, h => ⟨0, Nat.le_refl _, h, fun v hv => by omega⟩
  | n + 1, h => by
    by_cases hn : q ≤ (n : Int) * n
    · obtain ⟨u, h1, h2⟩ := up_exists q n hn
      exact ⟨u, by omega, h2⟩
    · refine ⟨n + 1, Nat.le_refl _, h, fun v hv => ?_⟩
      have h1 : (v : Int) * v ≤ (n : Int) * n := Int.mul_le_mul (by omega) (by omega) (by omega) (by omega)
      omega
theorem up_exists' (q : Int) : ∃ u : Nat, q ≤ (u : Int) * u ∧ ∀ v : Nat, v < u → (v : Int) * v < q := by
  obtain ⟨u, _, h⟩ := up_exists q q.toNat (by
    by_cases h0 : q ≤ 0
    · have : (0 : Int) ≤ (q.toNat : Int) * q.toNat := Int.mul_nonneg (by omega) (by omega)
      omega
    · have h1 : (q.toNat : Int) = q := by omega
      rw [h1]
      have := Int.mul_le_mul_of_nonneg_left (show (1 : Int) ≤ q by omega) (show (0 : Int) ≤ q by omega)
      rw [Int.mul_one] at this
      exact this)
  exact ⟨u, h⟩
/-- The root, rounded up. -/
noncomputable def rtU (q : Int) : Nat := Classical.choose (up_exists' q)
theorem rtU_spec (q : Int) : q ≤ (rtU q : Int) * rtU q ∧ ∀ v : Nat, v < rtU q → (v : Int) * v < q := Classical.choose_spec (up_exists' q)
theorem rtU_eq {q : Int} {u : Nat} (h1 : q ≤ (u : Int) * u) (h2 : ∀ v : Nat, v < u → (v : Int) * v < q) : u = rtU q := by
  obtain ⟨h3, h4⟩ := rtU_spec q
  rcases Nat.lt_trichotomy u (rtU q) with h | h | h
  · have := h4 u h; omega
  · exact h
  · have := h2 _ h; omega
theorem rtU_le {q : Int} {n : Nat} (h : q ≤ (n : Int) * n) : rtU q ≤ n := Decidable.by_contra fun hn => by
  have := (rtU_spec q).2 n (by omega)
  omega
/-- The root, rounded down. -/
noncomputable def rtL (q : Int) : Int := if (rtU q : Int) * rtU q = q then rtU q else rtU q - 1
theorem rt_bound {q : Int} (hq : 0 ≤ q ∧ q ≤ 20000000000) : (rtU q : Int) ≤ 141422 ∧ 0 ≤ rtL q ∧ rtL q ≤ rtU q := by
  have h1 : rtU q ≤ 141422 := rtU_le (by omega)
  have h2 := (rtU_spec q).1
  unfold rtL
  split
  · omega
  · rename_i h
    have : rtU q ≠ 0 := fun e => by rw [e] at h2 h; simp at h2 h; omega
    omega
theorem rt_pos {q : Int} (hq : 1 ≤ q) : 1 ≤ rtL q ∧ 1 ≤ rtU q := by
  have h2 := (rtU_spec q).1
  have h0 : rtU q ≠ 0 := fun e => by rw [e] at h2; simp at h2; omega
  unfold rtL
  split
  · omega
  · rename_i h
    have : rtU q ≠ 1 := fun e => by rw [e] at h2 h; simp at h2 h; omega
    omega
/-- The root of a greater square is no less. -/
theorem rt_mono {p q : Int} (h : p ≤ q) (hp : 0 ≤ p) : rtU p ≤ rtU q ∧ rtL p ≤ rtL q := by
  have h1 : rtU p ≤ rtU q := rtU_le (by have := (rtU_spec q).1; omega)
  refine ⟨h1, ?_⟩
  unfold rtL
  split
  · rename_i e1
    split
    · omega
    · rename_i e2
      have h2 := (rtU_spec q).1
      have : rtU p ≠ rtU q := fun e => by rw [e] at e1; omega
      omega
  · rename_i e1
    split <;> omega

set_option maxHeartbeats 3200000 in
set_option maxRecDepth 100000 in
theorem rootf_any (q x : Int) (hx : 0 ≤ x ∧ x ≤ 262144) (g : Nat) (w : World) (hb : w.cell? ⟨g, 0, none⟩ = some (.int .i64 q)) :
    Calls Try.prog 43 #[.int .i64 x, .pointer (some ⟨g, 0, none⟩)] w fun e w' => e = .returned (.bool (decide (q ≤ x * x))) ∧ w = w' := by
  obtain ⟨x0, x1⟩ := hx
  have h1 : x * x ≤ 262144 * 262144 := Int.mul_le_mul x1 x1 x0 (by omega)
  have h2 : 0 ≤ x * x := Int.mul_nonneg x0 x0
  have hw := IntWalk.i64_in (x * x) (by omega)
  clear h1 h2
  go_enter Try.func43, Try.ntmps43
  go_wp2_with fail
  go_ret
  exact ⟨rfl, rfl⟩

set_option maxHeartbeats 3200000 in
set_option maxRecDepth 100000 in
theorem Search_root (q : Int) (hq : 0 ≤ q ∧ q ≤ 20000000000) (g : Nat) (w : World) (hb : w.cell? ⟨g, 0, none⟩ = some (.int .i64 q)) :
    Calls Try.prog 42 #[.int .i64 262144, .func (.func 43) #[] #[.pointer (some ⟨g, 0, none⟩)]] w fun e w' => e = .returned (.int .i64 (rtU q : Int)) ∧ w = w' := by
  have HB := Lib.hid hb
  have HF := Lib.hid (fun (x : Int) (hx : 0 ≤ x ∧ x ≤ 262144) => rootf_any q x hx g w hb)
  obtain ⟨q0, q1⟩ := hq
  clear hb
  go_enter Try.func42, Try.ntmps42
  go_wp2_with fail
  go_loop [5, 6] (fun s5 s6 => ∃ lo hi : Nat, s5 = .int .i64 lo ∧ s6 = .int .i64 hi ∧ lo ≤ hi ∧ hi ≤ 262144 ∧ Hid ((∀ v : Nat, v < lo → (v : Int) * v < q) ∧ q ≤ (hi : Int) * hi)) (fun s5 s6 => (intOf s6).toNat - (intOf s5).toNat)
  case atStart => exact ⟨0, 262144, rfl, rfl, by omega, by omega, Lib.hid ⟨fun v hv => by omega, by omega⟩⟩
  case round =>
    obtain ⟨lo, hi, rfl, rfl, hlh, hhi, I⟩ := hrel
    by_cases hlt : lo < hi
    · obtain ⟨m, hm⟩ : ∃ m : Nat, m = (lo + hi) / 2 := ⟨_, rfl⟩
      have hc := HF.out (m : Int) (by omega)
      rw [show (m : Int) = ((lo : Int) + (hi : Int)) / 2 by omega] at hc
      have hm2 : ((lo : Int) + (hi : Int)) / 2 = (m : Int) := by omega
      have HM := Lib.hid hm
      cases hp : decide (q ≤ ((lo : Int) + (hi : Int)) / 2 * (((lo : Int) + (hi : Int)) / 2)) <;> rw [hp] at hc
      · have HP : Hid ((m : Int) * m < q) := Lib.hid (by have := of_decide_eq_false hp; rw [hm2] at this; omega)
        have HC := Lib.hid hc
        clear hp hm hm2 hc
        go_wp2_with fail
        go_at_call 43
        refine HC.out.mono ?_
        rintro e w' ⟨rfl, rfl⟩
        go_wp2_with fail
        go_round
        case rel => exact ⟨m + 1, hi, cong64 (by have := HM.out; omega), rfl, by have := HM.out; omega, hhi, Lib.hid ⟨fun v hv => by
          have h1 : (v : Int) * v ≤ (m : Int) * m := Int.mul_le_mul (by omega) (by omega) (by omega) (by omega)
          have := HP.out
          omega, I.out.2⟩⟩
        case measure => simp [intOf] <;> omega
      · have HP : Hid (q ≤ (m : Int) * m) := Lib.hid (by have := of_decide_eq_true hp; rw [hm2] at this; exact this)
        have HC := Lib.hid hc
        clear hp hm hm2 hc
        go_wp2_with fail
        go_at_call 43
        refine HC.out.mono ?_
        rintro e w' ⟨rfl, rfl⟩
        go_wp2_with fail
        go_round
        case rel => exact ⟨lo, m, rfl, cong64 (by have := HM.out; omega), by have := HM.out; omega, by have := HM.out; omega, Lib.hid ⟨I.out.1, HP.out⟩⟩
        case measure => simp [intOf] <;> omega
    · obtain rfl : hi = lo := by omega
      have HE : Hid (hi = rtU q) := Lib.hid (rtU_eq I.out.2 I.out.1)
      go_wp2_with fail
      go_ret
      exact ⟨ret_i64 (by rw [← HE.out]), rfl⟩

set_option maxHeartbeats 3200000 in
set_option maxRecDepth 100000 in
theorem root_any (q : Int) (hq : 0 ≤ q ∧ q ≤ 20000000000) (w : World) :
    Calls Try.prog 29 #[.int .i64 q] w fun e w' => e = .returned (.agg #[.int .i64 (rtL q), .int .i64 (rtU q : Int)]) ∧ Below w.heap.size w w' := by
  have F0 := Lib.hid (Fr.b2 w 3 #[.int .i64 q] 48 #[.int .i64 0, .int .i64 0])
  have HQ := Lib.hid hq
  have hmf : ∀ (fn : Fn) (first cap : Array Value) (w : World), (Instr.makeFunc fn first cap).run Try.prog w = .ok (.func fn first cap) w := fun _ _ _ _ => rfl
  have hbd := (rt_bound hq).1
  obtain ⟨u, hu⟩ : ∃ u : Nat, rtU q = u := ⟨_, rfl⟩
  have hL : rtL q = if (u : Int) * u = q then (u : Int) else u - 1 := by unfold rtL; rw [hu]
  have HLL := Lib.hid hL
  have HU := Lib.hid hu
  rw [hu] at hbd
  have h1 : (u : Int) * u ≤ 141422 * 141422 := Int.mul_le_mul hbd hbd (by omega) (by omega)
  have h2 : (0 : Int) ≤ (u : Int) * u := Int.mul_nonneg (by omega) (by omega)
  have hw := IntWalk.i64_in ((u : Int) * u) (by omega)
  obtain ⟨m, hm⟩ : ∃ m, (u : Int) * u = m := ⟨_, rfl⟩
  have hw2 := hw.trans hm
  have HMM := Lib.hid hm
  clear hL hu hq h1 h2 hw hm
  go_enter Try.func29, Try.ntmps29
  go_wp2_with fail
  refine (Search_root q HQ.out w.heap.size _ (F0.out.at1.cell 0)).mono ?_
  rintro e w1 ⟨rfl, rfl⟩
  rw [HU.out]
  have y0 := F0.out.at1.cell 0
  have d0 := F0.out.top.cell 0
  have d1 := F0.out.top.cell 1
  by_cases he : m = q
  · have hb : (m == q) = true := by simp [he]
    have HR : Hid (rtL q = u) := Lib.hid (by rw [HLL.out, HMM.out, if_pos he])
    go_wp2_with fail
    exact bodyPost_ret (v := .agg #[.int .i64 u, .int .i64 u]) (by simp [results, Try.results29, go_sem, d0, d1]) rfl ⟨by rw [HR.out, HU.out], (Fr.b2 w 3 #[.int .i64 q] 48 _).bl⟩
  · have hb : (m == q) = false := by simp [he]
    have HR : Hid (rtL q = u - 1) := Lib.hid (by rw [HLL.out, HMM.out, if_neg he])
    have hw3 := IntWalk.i64_in ((u : Int) - 1) (by omega)
    go_wp2_with fail
    exact bodyPost_ret (v := .agg #[.int .i64 ((u : Int) - 1), .int .i64 u]) (by simp [results, Try.results29, go_sem, d0, d1]) rfl ⟨by rw [HR.out, HU.out], (Fr.b2 w 3 #[.int .i64 q] 48 _).bl⟩
end Go.Proofs.Ytaghpemdcmjchaa
