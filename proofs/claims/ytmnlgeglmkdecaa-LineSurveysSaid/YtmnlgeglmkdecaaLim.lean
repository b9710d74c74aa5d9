/-
  The walks on the road to the limit at a joint.
-/
import Derived.Test.YtmnlgeglmkdecaaPlace
import Derived.Test.YtmnlgeglmkdecaaRefCk
namespace Go.Proofs.Ytmnlgeglmkdecaa
open Go.RowKit

theorem ret_u64_2 {a b c d : Int} (h : a = b) (h' : c = d) : Ending.returned (.tuple #[.int .u64 a, .int .u64 c]) = .returned (.tuple #[.int .u64 b, .int .u64 d]) := by rw [h, h']

set_option maxHeartbeats 1000000 in
theorem mul_short (w : World) : Calls Try.prog 129 #[.int .u64 59620000000, .int .u64 100000000] w fun e w' => e = .returned (.tuple #[.int .u64 0, .int .u64 5962000000000000000]) ∧ w = w' := by
  go_enter Try.func129, Try.ntmps129
  go_wp2
  go_ret2
  exact ⟨ret_u64_2 (by decide +kernel) (by decide +kernel), rfl⟩

set_option maxHeartbeats 1000000 in
set_option maxRecDepth 100000 in
theorem div_short (w : World) : Calls Try.prog 130 #[.int .u64 0, .int .u64 5962000000000000000, .int .u64 8000000000] w fun e w' => e = .returned (.tuple #[.int .u64 745250000, .int .u64 0]) ∧ ∃ n, w' = w.drewN n := by
  go_enter Try.func130, Try.ntmps130
  go_wp2
  go_region
  go_wp2
  go_ret2
  exact ⟨ret_u64_2 (by decide +kernel) (by decide +kernel), 1, rfl⟩

set_option maxHeartbeats 1000000 in
theorem isInner_any {L : Ll} (hn : L.js.length ≤ 1000) (H : Hds) (P : Addr) (pc : Nat) (j : Int) (w : World) :
    Calls Try.prog 97 #[(.agg #[.string L.name, .slice H.j.A L.js.length H.j.c, .slice H.b.A L.bs.length H.b.c, .slice H.s.A L.ss.length H.s.c, .slice (some P) L.js.length pc]), .int .i64 j] w fun e w' => e = .returned (.bool (inB j 1 (L.js.length - 2))) ∧ Below w.heap.size w w' := by
  have hb := (Below.refl w.heap.size w).alloc (Nat.le_refl _) (.cells #[.string L.name, .slice H.j.A L.js.length H.j.c, .slice H.b.A L.bs.length H.b.c, .slice H.s.A L.ss.length H.s.c, .slice (some P) L.js.length pc] 119)
  by_cases h1 : 0 < j <;> by_cases h2 : j < (L.js.length : Int) - 1
  all_goals
    go_enter Try.func97, Try.ntmps97
    go_wp2_with fail
    go_ret
    exact ⟨ret_bool (by rw [Bool.eq_iff_iff, inB_iff]; simp; omega), hb⟩

/-- How much farther across the second joint of a beam is. -/
def asideL (L : Ll) (k : Nat) : Int := ((L.js[k + 1]?.map Lj.x).getD 0) - ((L.js[k]?.map Lj.x).getD 0)

set_option maxHeartbeats 1000000 in
theorem aside_any {L : Ll} (hr : Right L) (H : Hds) (P : Addr) (pc : Nat) (k : Nat) (hk : k < L.bs.length) (w : World) (hA : Lies w w.heap.size H.j.A (L.js.flatMap jc)) :
    Calls Try.prog 128 #[(.agg #[.string L.name, .slice H.j.A L.js.length H.j.c, .slice H.b.A L.bs.length H.b.c, .slice H.s.A L.ss.length H.s.c, .slice (some P) L.js.length pc]), .int .i64 k] w fun e w' => e = .returned (.int .i64 (asideL L k)) ∧ Below w.heap.size w w' := by
  obtain ⟨⟨Aj, cj⟩, ⟨Ab, cb⟩, ⟨As, cs⟩, each⟩ := H
  have hj := hr.jb
  have h40 := hr.most
  have hk1 : k < L.js.length := by omega
  have hk2 : k + 1 < L.js.length := by omega
  obtain ⟨aj, haj⟩ : ∃ a, Aj = some a := by obtain ⟨a, h, _⟩ := hA.joint (List.getElem?_eq_getElem (show 0 < L.js.length by omega)); exact ⟨a, h⟩
  subst haj
  have b0 := (Below.refl w.heap.size w).alloc (Nat.le_refl _) (.cells #[.string L.name, .slice (some aj) L.js.length cj, .slice Ab L.bs.length cb, .slice As L.ss.length cs, .slice (some P) L.js.length pc] 119)
  obtain ⟨a1, e1, _, x1, _⟩ := (hA.below b0).joint (List.getElem?_eq_getElem hk1)
  obtain ⟨a2, e2, _, x2, _⟩ := (hA.below b0).joint (List.getElem?_eq_getElem hk2)
  simp only [Option.some.injEq] at e1 e2
  subst e1
  subst e2
  have hv := Lib.hid (show asideL L k = L.js[k + 1].x - L.js[k].x by unfold asideL; rw [List.getElem?_eq_getElem hk1, List.getElem?_eq_getElem hk2]; rfl)
  obtain ⟨q1, _⟩ := jErr_zero (hr.j _ (List.getElem_mem hk1))
  obtain ⟨q2, _⟩ := jErr_zero (hr.j _ (List.getElem_mem hk2))
  obtain ⟨q3, q4⟩ := inB_iff.1 q1
  obtain ⟨q5, q6⟩ := inB_iff.1 q2
  have HB := Lib.hid b0
  have HJ2 := Lib.hid hj
  have h41 : L.js.length ≤ 41 := by omega
  clear q1 q2 b0 hA hr hj
  go_enter Try.func128, Try.ntmps128
  go_wp2_with fail
  go_region
  go_wp2_with fail
  go_ret
  exact ⟨by rw [hv.out]; rfl, HB.out.drew⟩
end Go.Proofs.Ytmnlgeglmkdecaa
