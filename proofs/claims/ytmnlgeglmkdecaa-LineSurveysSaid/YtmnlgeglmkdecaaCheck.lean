/-
  The walks of CheckLine's parts.
-/
import Derived.Test.YtmnlgeglmkdecaaName
import Derived.Deep.Light
namespace Go.Proofs.Ytmnlgeglmkdecaa
open Go.RowKit

set_option maxHeartbeats 400000 in
theorem checkWhole_any (L : Ll) (H : Hds) (hn : L.name.size ≤ maxLen) (hb : L.bs.length ≤ 1000) (w : World) :
    Calls Try.prog 75 #[(.agg #[.string L.name, .slice H.j.A L.js.length H.j.c, .slice H.b.A L.bs.length H.b.c, .slice H.s.A L.ss.length H.s.c])] w fun e w' => e = .returned (.int .i64 (wholeErr L)) ∧ Below w.heap.size w w' := by
  have hB := (Below.refl w.heap.size w).alloc (Nat.le_refl _) (.cells #[.string L.name, .slice H.j.A L.js.length H.j.c, .slice H.b.A L.bs.length H.b.c, .slice H.s.A L.ss.length H.s.c] 26)
  cases h1 : nameB L.name.data.toList with
  | false =>
    go_enter Try.func75, Try.ntmps75
    go_wp2_with (go_at_call 125; refine (isName_any _ hn _).mono ?_; rintro e w' ⟨rfl, rfl⟩)
    go_ret
    exact ⟨ret_i64 (by simp [wholeErr, h1]), hB⟩
  | true =>
    by_cases h2 : L.bs.length = 0
    · have g2 : ((L.bs.length : Int) == 0) = true := beq_iff_eq.2 (by omega)
      have hr := Lib.hid (show wholeErr L = 10 by simp [wholeErr, h1, h2])
      clear h2
      go_enter Try.func75, Try.ntmps75
      go_wp2_with (go_at_call 125; refine (isName_any _ hn _).mono ?_; rintro e w' ⟨rfl, rfl⟩)
      go_ret
      exact ⟨ret_i64 hr.out.symm, hB⟩
    have g2 : ((L.bs.length : Int) == 0) = false := beq_eq_false_iff_ne.2 (by omega)
    by_cases h3 : L.js.length = L.bs.length + 1
    · have g3 : (((L.js.length : Nat) : Int) != (L.bs.length : Int) + 1) = false := by rw [bne_eq_false_iff_eq]; omega
      by_cases h4 : 40 < L.bs.length
      all_goals
        have hr : Hid (wholeErr L = if 40 < L.bs.length then 8 else 0) := Lib.hid (by simp only [wholeErr, h1]; rw [if_neg (by simp), if_neg (by omega)])
        have H3 := Lib.hid h3
        clear h3
        go_enter Try.func75, Try.ntmps75
        go_wp2_with (go_at_call 125; refine (isName_any _ hn _).mono ?_; rintro e w' ⟨rfl, rfl⟩)
        go_ret
        exact ⟨ret_i64 (by rw [hr.out]; first | rw [if_pos h4] | rw [if_neg h4]), hB⟩
    · have g3 : (((L.js.length : Nat) : Int) != (L.bs.length : Int) + 1) = true := by rw [bne_iff_ne]; omega
      have hr := Lib.hid (show wholeErr L = 10 by simp [wholeErr, h1, h3])
      clear h3
      go_enter Try.func75, Try.ntmps75
      go_wp2_with (go_at_call 125; refine (isName_any _ hn _).mono ?_; rintro e w' ⟨rfl, rfl⟩)
      go_ret
      exact ⟨ret_i64 hr.out.symm, hB⟩

end Go.Proofs.Ytmnlgeglmkdecaa
