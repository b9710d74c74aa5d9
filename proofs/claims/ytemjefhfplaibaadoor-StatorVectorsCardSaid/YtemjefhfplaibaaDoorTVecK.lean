
/-
  The walk of StatorVectors: what is known ahead.
-/
import Derived.Test.YtemjefhfplaibaaDoorTAwk
import Derived.Test.YtemjefhfplaibaaDoorTRefF
import Derived.Test.YtemjefhfplaibaaDoorTSec2
namespace Go.Proofs.YtemjefhfplaibaaDoor
open Go.RowKit

/-- The answers at right phases. -/
theorem ph_known (x y z : Int) (h : okP x y z = true) : ∃ c0 c1 : Int, (∀ w, Calls Tryd.prog 13 #[.agg #[.int .i64 x, .int .i64 y, .int .i64 z]] w fun e w' => e = .returned (.tuple #[.agg #[.int .i64 c0, .int .i64 c1], .int .i64 0]) ∧ Below w.heap.size w w') ∧ (∀ w, Calls Tryd.prog 18 #[.agg #[.int .i64 x, .int .i64 y, .int .i64 z]] w fun e w' => e = .returned (.agg #[.int .i64 c0, .int .i64 c1]) ∧ Below w.heap.size w w') := by
  obtain ⟨h1, h2, h3⟩ := okP_iff.1 h
  exact ⟨_, _, fun w => VectorOf_ok x y z h w, fun w => refVectorOf_any x y z (by omega) (by omega) (by omega) w⟩
/-- The answers at a right vector. -/
theorem vec_known (a b : Int) (h : okT ⟨a, b⟩ = true) : ∃ p0 p1 p2 lo up : Int,
    (∀ w, Calls Tryd.prog 14 #[.agg #[.int .i64 a, .int .i64 b]] w fun e w' => e = .returned (.tuple #[.agg #[.int .i64 p0, .int .i64 p1, .int .i64 p2], .int .i64 0]) ∧ Below w.heap.size w w') ∧
    (∀ w, Calls Tryd.prog 20 #[.agg #[.int .i64 a, .int .i64 b]] w fun e w' => e = .returned (.agg #[.int .i64 p0, .int .i64 p1, .int .i64 p2]) ∧ Below w.heap.size w w') ∧
    (∀ w, Calls Tryd.prog 15 #[.agg #[.int .i64 a, .int .i64 b]] w fun e w' => e = .returned (.tuple #[.agg #[.int .i64 lo, .int .i64 up], .int .i64 0]) ∧ Below w.heap.size w w') ∧
    (∀ w, Calls Tryd.prog 21 #[.agg #[.int .i64 a, .int .i64 b]] w fun e w' => e = .returned (.agg #[.int .i64 lo, .int .i64 up]) ∧ Below w.heap.size w w') := by
  obtain ⟨d, u, hd, hu, hm⟩ := size_up h
  have hb := (okT_bd h).more (K := 1000000000) (by omega)
  refine ⟨_, _, _, (d : Int), (u : Int), fun w => PhasesOf_ok ⟨a, b⟩ h w, fun w => refPhasesOf_any ⟨a, b⟩ hb w, fun w => ?_, fun w => refSizeOf_any ⟨a, b⟩ d u h hd hu w⟩
  have := SizeOf_ok ⟨a, b⟩ u h hu hm w
  rw [rootLo_dn hd hu] at this
  exact this
theorem eqA3 (a b c d e f : Int) (w : World) : (Op.equalIn 10000 22 (.agg #[.int .i64 a, .int .i64 b, .int .i64 c]) (.agg #[.int .i64 d, .int .i64 e, .int .i64 f])).run Tryd.prog w = .ok (a == d && b == e && c == f) w := by
  have u3 := Tryd.underlying3
  have a3 := Tryd.isAgg3
  have z3 := Tryd.sizeOf3
  rw [show (10000 : Nat) = 9999 + 1 from rfl, Op.equalIn]
  simp only [Sem.run_bind, run_underlying Tryd.underlying22, Result.andThen_ok]
  simp only [Std.Legacy.Range.forIn_eq_forIn_range', Std.Legacy.Range.size, Nat.sub_zero, Nat.add_sub_cancel, Nat.div_one, List.range'_succ, List.range'_zero, List.forIn_cons, List.forIn_nil]
  go_simp
  by_cases h1 : a = d <;> by_cases h2 : b = e <;> by_cases h3 : c = f <;> simp [h1, h2, h3]
theorem eqA3_same (a b c : Int) (w : World) : (Op.equalIn 10000 22 (.agg #[.int .i64 a, .int .i64 b, .int .i64 c]) (.agg #[.int .i64 a, .int .i64 b, .int .i64 c])).run Tryd.prog w = .ok true w := by
  rw [eqA3]; simp
theorem sec_known (a b : Int) (h : okT ⟨a, b⟩ = true) (hz : ¬ (a = 0 ∧ b = 0)) : ∃ n : Int,
    (∀ w, Calls Tryd.prog 16 #[.agg #[.int .i64 a, .int .i64 b]] w fun e w' => e = .returned (.tuple #[.int .i64 n, .int .i64 0]) ∧ Below w.heap.size w w') ∧
    (∀ w, Calls Tryd.prog 22 #[.agg #[.int .i64 a, .int .i64 b]] w fun e w' => e = .returned (.int .i64 n) ∧ Below w.heap.size w w') :=
  ⟨_, fun w => SectorOf_ok ⟨a, b⟩ h hz w, fun w => refSectorOf_any ⟨a, b⟩ h hz w⟩
end Go.Proofs.YtemjefhfplaibaaDoor
