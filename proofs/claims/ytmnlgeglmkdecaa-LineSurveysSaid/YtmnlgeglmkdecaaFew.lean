/-
  The walk of Few.
-/
import Derived.Test.YtmnlgeglmkdecaaCopy
import Derived.Test.YtmnlgeglmkdecaaLeaf2
namespace Go.Proofs.Ytmnlgeglmkdecaa
open Go.RowKit

def fewS (s : Ls) : Bool := decide (s.name.size ≤ 20) && decide (s.across.length ≤ 6)
def fewHead (L : Ll) : Bool := decide (L.name.size ≤ 20) && fewB L.bs.length 8 40 && fewB L.js.length 9 41 && decide (L.ss.length ≤ 6)
def fewL (L : Ll) : Bool := fewHead L && L.ss.all fewS

theorem few_bad {L : Ll} {k : Nat} (hk : k < L.ss.length) (h : fewS L.ss[k] = false) : fewL L = false := by
  unfold fewL
  rw [Bool.and_eq_false_iff]
  right
  rw [List.all_eq_false]
  exact ⟨_, List.getElem_mem hk, by simp [h]⟩
theorem few_good {L : Ll} (hh : fewHead L = true) (h : ∀ (i : Nat) (hi : i < L.ss.length), fewS L.ss[i] = true) : fewL L = true := by
  unfold fewL
  rw [hh, Bool.true_and, List.all_eq_true]
  intro x hx
  obtain ⟨i, hi, rfl⟩ := List.getElem_of_mem hx
  exact h i hi

set_option maxHeartbeats 2000000 in
set_option maxRecDepth 100000 in
theorem Few_any (L : Ll) (H : Hds) (n1 : L.name.size ≤ maxLen) (n2 : L.js.length ≤ maxLen) (n3 : L.bs.length ≤ maxLen) (n4 : L.ss.length ≤ maxLen) (n5 : ∀ s ∈ L.ss, s.across.length ≤ maxLen ∧ s.name.size ≤ maxLen) (w : World) (hA : LnAt w w.heap.size L H) :
    Calls Try.prog 16 #[(.agg #[.string L.name, .slice H.j.A L.js.length H.j.c, .slice H.b.A L.bs.length H.b.c, .slice H.s.A L.ss.length H.s.c])] w fun e w' => e = .returned (.bool (fewL L)) ∧ Below w.heap.size w w' := by
  obtain ⟨⟨Aj, cj⟩, ⟨Ab, cb⟩, ⟨As, cs⟩, each⟩ := H
  have b0 := (Below.refl w.heap.size w).alloc (Nat.le_refl _) (.cells #[.string L.name, .slice Aj L.js.length cj, .slice Ab L.bs.length cb, .slice As L.ss.length cs] 26)
  have HB := Lib.hid b0
  have HN5 := Lib.hid n5
  unfold maxLen at n1 n2 n3 n4
  have HA := Lib.hid hA
  have m1 : (L.name.size : Int) ≤ 9223372036854775807 := by omega
  have m2 : (L.js.length : Int) ≤ 9223372036854775807 := by omega
  have m3 : (L.bs.length : Int) ≤ 9223372036854775807 := by omega
  have m4 : (L.ss.length : Int) ≤ 9223372036854775807 := by omega
  clear b0 n5 hA n1 n2 n3 n4
  by_cases h1 : 20 < L.name.size
  · have hr := Lib.hid (show fewL L = false by unfold fewL fewHead; rw [decide_eq_false (by omega)]; rfl)
    go_enter Try.func16, Try.ntmps16
    go_wp2_with (go_at_call 74; refine (few_any _ _ _ (by omega) (by omega) _).mono ?_; rintro e w' ⟨rfl, rfl⟩)
    go_ret
    exact ⟨ret_bool hr.out.symm, HB.out⟩
  cases h2 : fewB L.bs.length 8 40 with
  | false =>
    have hr := Lib.hid (show fewL L = false by unfold fewL fewHead; rw [h2]; simp)
    go_enter Try.func16, Try.ntmps16
    go_wp2_with (go_at_call 74; refine (few_any _ _ _ (by omega) (by omega) _).mono ?_; rintro e w' ⟨rfl, rfl⟩)
    go_ret
    exact ⟨ret_bool hr.out.symm, HB.out⟩
  | true =>
  cases h3 : fewB L.js.length 9 41 with
  | false =>
    have hr := Lib.hid (show fewL L = false by unfold fewL fewHead; rw [h3]; simp)
    go_enter Try.func16, Try.ntmps16
    go_wp2_with (go_at_call 74; refine (few_any _ _ _ (by omega) (by omega) _).mono ?_; rintro e w' ⟨rfl, rfl⟩)
    go_ret
    exact ⟨ret_bool hr.out.symm, HB.out⟩
  | true =>
  by_cases h4 : 6 < L.ss.length
  · have hr := Lib.hid (show fewL L = false by unfold fewL fewHead; rw [decide_eq_false (show ¬ L.ss.length ≤ 6 by omega)]; simp)
    go_enter Try.func16, Try.ntmps16
    go_wp2_with (go_at_call 74; refine (few_any _ _ _ (by omega) (by omega) _).mono ?_; rintro e w' ⟨rfl, rfl⟩)
    go_ret
    exact ⟨ret_bool hr.out.symm, HB.out⟩
  have HH := Lib.hid (show fewHead L = true by unfold fewHead; rw [h2, h3, decide_eq_true (show L.name.size ≤ 20 by omega), decide_eq_true (show L.ss.length ≤ 6 by omega)]; rfl)
  go_enter Try.func16, Try.ntmps16
  go_wp2_with (go_at_call 74; refine (few_any _ _ _ (by omega) (by omega) _).mono ?_; rintro e w' ⟨rfl, rfl⟩)
  go_loop [3] (fun i => ∃ k : Nat, k ≤ L.ss.length ∧ i = .int .i64 k ∧ ∀ (i : Nat) (hi : i < k) (hl : i < L.ss.length), fewS L.ss[i] = true) (fun i => L.ss.length - (intOf i).toNat)
  case atStart => exact ⟨0, Nat.zero_le _, rfl, fun i hi => absurd hi (by omega)⟩
  case round =>
    obtain ⟨k, hk, rfl, hz⟩ := hrel
    have HZ := Lib.hid hz
    clear hz
    by_cases hlt : k < L.ss.length
    · have hn : each.length = L.ss.length := HA.out.n
      have hp : k < (L.ss.zip each).length := by rw [List.length_zip, hn]; simpa using hlt
      obtain ⟨hd, he1⟩ : ∃ hd, (L.ss.zip each)[k]? = some (L.ss[k], hd) := ⟨each[k]'(by omega), by rw [List.getElem?_eq_getElem hp, List.getElem_zip]⟩
      obtain ⟨a', ha'⟩ : ∃ a, As = some a := by obtain ⟨a, h, _⟩ := HA.out.s.switch he1; exact ⟨a, h⟩
      subst ha'
      obtain ⟨a2, ha2, _, j0, _, j2⟩ := (HA.out.s.below HB.out).switch he1
      simp only [Option.some.injEq] at ha2
      subst ha2
      simp only at j0 j2
      obtain ⟨s, hs⟩ : ∃ s, L.ss[k] = s := ⟨_, rfl⟩
      obtain ⟨p1, p2⟩ := HN5.out s (by rw [← hs]; exact List.getElem_mem hlt)
      unfold maxLen at p1 p2
      have q1 : (s.across.length : Int) ≤ 9223372036854775807 := by omega
      have q2 : (s.name.size : Int) ≤ 9223372036854775807 := by omega
      rw [hs] at j0 j2
      have HS := Lib.hid hs
      clear hs he1 hp hn p1 p2
      by_cases g1 : 20 < s.name.size
      · have hr := Lib.hid (few_bad hlt (by rw [HS.out]; unfold fewS; rw [decide_eq_false (show ¬ s.name.size ≤ 20 by omega)]; rfl))
        go_wp2_with fail
        go_ret
        exact ⟨ret_bool hr.out.symm, HB.out⟩
      · by_cases g2 : 6 < s.across.length
        · have hr := Lib.hid (few_bad hlt (by rw [HS.out]; unfold fewS; rw [decide_eq_false (show ¬ s.across.length ≤ 6 by omega)]; simp))
          go_wp2_with fail
          go_ret
          exact ⟨ret_bool hr.out.symm, HB.out⟩
        · have hf := Lib.hid (show fewS s = true by unfold fewS; rw [decide_eq_true (show s.name.size ≤ 20 by omega), decide_eq_true (show s.across.length ≤ 6 by omega)]; rfl)
          go_wp2_with fail
          go_round
          case rel => exact ⟨k + 1, by omega, by go_num, fun i hi hl => if h : i = k then (by subst h; rw [HS.out]; exact hf.out) else HZ.out i (by omega) hl⟩
          case measure => simp [intOf]; omega
    · have hr := Lib.hid (few_good HH.out (fun i hi => HZ.out i (by omega) hi))
      clear HZ
      go_wp2_with fail
      go_ret
      exact ⟨ret_bool hr.out.symm, HB.out⟩

theorem few_ok {L : Ll} (h : fewL L = true) (hj : ∀ j ∈ L.js, j.ok) (hb : ∀ b ∈ L.bs, b.ok) (hs : ∀ s ∈ L.ss, s.ok) : L.ok := by
  unfold fewL fewHead at h
  simp only [Bool.and_eq_true, decide_eq_true_eq, List.all_eq_true] at h
  obtain ⟨⟨⟨⟨h1, h2⟩, h3⟩, h4⟩, h5⟩ := h
  have f : ∀ n a b : Int, fewB n a b = true → n ≤ a ∨ n ≤ b + 3 := fun n a b h => by
    unfold fewB at h
    simp only [Bool.or_eq_true, Bool.and_eq_true, decide_eq_true_eq] at h
    omega
  have f2 := f _ _ _ h2
  have f3 := f _ _ _ h3
  refine ⟨by omega, hj, hb, hs, by omega, by omega, by omega, fun s hs => ?_⟩
  have := h5 s hs
  unfold fewS at this
  simp only [Bool.and_eq_true, decide_eq_true_eq] at this
  omega
end Go.Proofs.Ytmnlgeglmkdecaa
