/-
  The walks of the statements' small functions of fractions.
-/
import Derived.Test.YthdbjbdfcnepgaaLow
import Derived.Test.YthdbjbdfcnepgaaGcd
import Derived.Test.YthdbjbdfcnepgaaDevB
namespace Go.Proofs.Ythdbjbdfcnepgaa
open Go.RowKit

set_option maxHeartbeats 400000 in
theorem Whole_any (n : Int) (w : World) : Calls Try.prog 33 #[.int .i64 n] w fun e w' => e = .returned (.agg #[.int .i64 n, .int .i64 1]) ∧ Below w.heap.size w w' := by
  have b0 := Lib.hid ((Below.refl w.heap.size w).alloc (Nat.le_refl _) (.cells #[.int .i64 0, .int .i64 0] 46))
  go_enter Try.func33, Try.ntmps33
  go_wp2_with fail
  refine bodyPost_ret (v := .agg #[.int .i64 n, .int .i64 1]) (by simp [results, Try.results33, go_sem]) rfl ⟨rfl, ?_⟩
  exact (Below.refl w.heap.size w).alloc (Nat.le_refl _) _

set_option maxHeartbeats 400000 in
theorem IsLowest_yes (n d : Int) (hn : -4611686018427387904 ≤ n) (hn' : n ≤ 4611686018427387904) (hd : 1 ≤ d) (hd' : d ≤ 4611686018427387904) (hg : Int.gcd n d = 1) (w : World) :
    Calls Try.prog 35 #[.agg #[.int .i64 n, .int .i64 d]] w fun e w' => e = .returned (.bool true) ∧ Below w.heap.size w w' := by
  have b0 := Lib.hid ((Below.refl w.heap.size w).alloc (Nat.le_refl _) (.cells #[.int .i64 n, .int .i64 d] 46))
  have HG := Lib.hid hg
  clear hg
  go_enter Try.func35, Try.ntmps35
  go_wp2_with (go_at_call 92; refine (Gcd_any n d hn hn' (by omega) (by omega) _).mono ?_; rintro e w1 ⟨rfl, hb1⟩; rw [HG.out])
  go_ret
  exact ⟨rfl, Below.step b0.out hb1⟩

def smallB (n d : Int) : Bool := inB n (-1000000000) 1000000000 && inB d 1 1000000000
set_option maxHeartbeats 400000 in
theorem IsSmall_any (n d : Int) (w : World) :
    Calls Try.prog 36 #[.agg #[.int .i64 n, .int .i64 d]] w fun e w' => e = .returned (.bool (smallB n d)) ∧ Below w.heap.size w w' := by
  have b0 := Lib.hid ((Below.refl w.heap.size w).alloc (Nat.le_refl _) (.cells #[.int .i64 n, .int .i64 d] 46))
  cases h1 : inB n (-1000000000) 1000000000 <;> cases h2 : inB d 1 1000000000
  all_goals
    go_enter Try.func36, Try.ntmps36
    go_wp2_with (go_at_call 34; refine (Within_any _ _ _ _).mono ?_; rintro e w' ⟨rfl, rfl⟩)
    go_ret
    exact ⟨ret_bool (by simp [smallB, h1, h2]), b0.out⟩

/-- What Cmp comes to. -/
def cmpV (a b c d : Int) : Int := if a * d < c * b then -1 else if c * b < a * d then 1 else 0
set_option maxHeartbeats 400000 in
theorem Cmp_any (a b c d : Int) (ha : -1000000000 ≤ a ∧ a ≤ 1000000000) (hb : 0 ≤ b ∧ b ≤ 1000000000) (hc : -1000000000 ≤ c ∧ c ≤ 1000000000) (hd : 0 ≤ d ∧ d ≤ 1000000000) (w : World) :
    Calls Try.prog 93 #[.agg #[.int .i64 a, .int .i64 b], .agg #[.int .i64 c, .int .i64 d]] w fun e w' => e = .returned (.int .i64 (cmpV a b c d)) ∧ Below w.heap.size w w' := by
  have b0 := Lib.hid (((Below.refl w.heap.size w).alloc (Nat.le_refl _) (.cells #[.int .i64 a, .int .i64 b] 46)).alloc (by simp) (.cells #[.int .i64 c, .int .i64 d] 46))
  obtain ⟨m1, m2⟩ := mul_bound (A := 1000000000) (B := 1000000000) ha.1 ha.2 hd.1 hd.2
  obtain ⟨m3, m4⟩ := mul_bound (A := 1000000000) (B := 1000000000) hc.1 hc.2 hb.1 hb.2
  have t1 := IntWalk.wrap64_in (a * d) ⟨by omega, by omega⟩
  have t2 := IntWalk.wrap64_in (c * b) ⟨by omega, by omega⟩
  unfold cmpV
  obtain ⟨x, hx⟩ : ∃ x, a * d = x := ⟨_, rfl⟩
  obtain ⟨y, hy⟩ : ∃ y, c * b = y := ⟨_, rfl⟩
  rw [hx, hy]
  by_cases h1 : x < y <;> by_cases h2 : y < x
  all_goals first | (exfalso; omega) | skip
  all_goals
    go_enter Try.func93, Try.ntmps93
    go_wp2_with fail
    go_region
    all_goals
      go_wp2_with fail
      go_ret
      exact ⟨ret_i64 (by simp [h1, h2]), by first | exact b0.out | exact b0.out.drew⟩
end Go.Proofs.Ythdbjbdfcnepgaa
