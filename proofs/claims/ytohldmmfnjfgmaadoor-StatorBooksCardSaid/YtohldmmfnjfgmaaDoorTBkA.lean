
/-
  Steps of an energy book: plain words, and the walks of powers and of their errors.
-/
import Derived.Test.YtohldmmfnjfgmaaDoorTVecF
import Derived.Test.YtohldmmfnjfgmaaDoorTRsW
namespace Go.Proofs.YtohldmmfnjfgmaaDoor
open Go.RowKit

/-- Three numbers; a step of a book. -/
structure Ph where
  x : Int
  y : Int
  z : Int
structure Stp where
  v : Ph
  c : Ph
  ohm : Int
def Ph.ok (p : Ph) : Bool := okP p.x p.y p.z
def Ph.sz (p : Ph) : Int := szE 100000 [p.x, p.y, p.z]
theorem Ph.sz_eq (p : Ph) : p.sz = if p.ok = true then 0 else 2 := szE_three
/-- The power. -/
def pwV (v c : Ph) : Int := v.x * c.x + v.y * c.y + v.z * c.z
def stc (s : Stp) : List Value := [.int .i64 s.v.x, .int .i64 s.v.y, .int .i64 s.v.z, .int .i64 s.c.x, .int .i64 s.c.y, .int .i64 s.c.z, .int .i64 s.ohm]
def Stp.ok (s : Stp) : Bool := s.v.ok && s.c.ok && inB s.ohm 0 1000
def fedV : List Stp → Int
  | [] => 0
  | s :: l => pwV s.v s.c + fedV l
def lostV : List Stp → Int
  | [] => 0
  | s :: l => s.ohm * pwV s.c s.c + lostV l
theorem fedV_snoc : ∀ (l : List Stp) (s : Stp), fedV (l ++ [s]) = fedV l + pwV s.v s.c
  | [], s => by simp [fedV]
  | t :: l, s => by simp only [List.cons_append, fedV, fedV_snoc l s]; omega
theorem lostV_snoc : ∀ (l : List Stp) (s : Stp), lostV (l ++ [s]) = lostV l + s.ohm * pwV s.c s.c
  | [], s => by simp [lostV]
  | t :: l, s => by simp only [List.cons_append, lostV, lostV_snoc l s]; omega
theorem Ph.ok_iff {p : Ph} : p.ok = true ↔ (-100000 ≤ p.x ∧ p.x ≤ 100000) ∧ (-100000 ≤ p.y ∧ p.y ≤ 100000) ∧ -100000 ≤ p.z ∧ p.z ≤ 100000 := okP_iff
theorem pw_in {v c : Ph} (hv : v.ok = true) (hc : c.ok = true) : -30000000000 ≤ pwV v c ∧ pwV v c ≤ 30000000000 := by
  obtain ⟨a, b, d⟩ := Ph.ok_iff.1 hv
  obtain ⟨e, f, g⟩ := Ph.ok_iff.1 hc
  have h1 := mulB a e
  have h2 := mulB b f
  have h3 := mulB d g
  unfold pwV
  omega
theorem ohm_in {s : Stp} (h : s.ok = true) : -30000000000000 ≤ s.ohm * pwV s.c s.c ∧ s.ohm * pwV s.c s.c ≤ 30000000000000 := by
  simp only [Stp.ok, Bool.and_eq_true] at h
  have h1 := pw_in h.1.2 h.1.2
  have h2 := inB_iff.1 h.2
  have := mulB (x := s.ohm) (y := pwV s.c s.c) (A := 1000) (B := 30000000000) ⟨by omega, by omega⟩ h1
  omega
theorem book_in : ∀ (l : List Stp), (∀ s ∈ l, s.ok = true) → (-(l.length * 30000000000 : Int) ≤ fedV l ∧ fedV l ≤ l.length * 30000000000) ∧ -(l.length * 30000000000000 : Int) ≤ lostV l ∧ lostV l ≤ l.length * 30000000000000
  | [], _ => by simp [fedV, lostV]
  | s :: l, h => by
    have ih := book_in l (fun t ht => h t (List.mem_cons_of_mem _ ht))
    have hs := h s (List.mem_cons_self)
    have h1 := ohm_in hs
    simp only [Stp.ok, Bool.and_eq_true] at hs
    have h2 := pw_in hs.1.1 hs.1.2
    simp only [fedV, lostV, List.length_cons]
    push_cast
    omega
/-- If the currents come to 0, three times the power is 2 p - q. -/
theorem pw_three (v c : Ph) (h : c.x + c.y + c.z = 0) : 3 * pwV v c = 2 * ((T3.mk (v.x - v.z) (v.y - v.z)).mul (T3.mk (c.x - c.z) (c.y - c.z)).conj).a - ((T3.mk (v.x - v.z) (v.y - v.z)).mul (T3.mk (c.x - c.z) (c.y - c.z)).conj).b := by
  obtain ⟨a, b, d⟩ := v
  obtain ⟨e, f, g⟩ := c
  simp only at h
  obtain rfl : g = -e - f := by omega
  simp only [pwV, T3.mul, T3.conj]
  grind

set_option maxHeartbeats 800000 in
set_option maxRecDepth 100000 in
theorem sumOfProducts_any (v c : Ph) (hv : v.ok = true) (hc : c.ok = true) (w : World) : Calls Tryd.prog 73 #[.agg #[.int .i64 v.x, .int .i64 v.y, .int .i64 v.z], .agg #[.int .i64 c.x, .int .i64 c.y, .int .i64 c.z]] w fun e w' => e = .returned (.int .i64 (pwV v c)) ∧ Below w.heap.size w w' := by
  have F0 := Lib.hid (Fr.b2 w 73 #[.int .i64 v.x, .int .i64 v.y, .int .i64 v.z] 73 #[.int .i64 c.x, .int .i64 c.y, .int .i64 c.z])
  obtain ⟨a, b, d⟩ := Ph.ok_iff.1 hv
  obtain ⟨e, f, g⟩ := Ph.ok_iff.1 hc
  have h1 := mulB a e
  have h2 := mulB b f
  have h3 := mulB d g
  obtain ⟨p, hp⟩ : ∃ p, v.x * c.x = p := ⟨_, rfl⟩
  obtain ⟨q, hq⟩ : ∃ p, v.y * c.y = p := ⟨_, rfl⟩
  obtain ⟨r, hr⟩ : ∃ p, v.z * c.z = p := ⟨_, rfl⟩
  have HP : Hid (pwV v c = p + q + r) := Lib.hid (by unfold pwV; rw [hp, hq, hr])
  have W1 : Hid (IntKind.i64.wrap (v.x * c.x) = p) := Lib.hid (by rw [← hp]; exact IntWalk.i64_in _ ⟨by omega, by omega⟩)
  have W2 : Hid (IntKind.i64.wrap (v.y * c.y) = q) := Lib.hid (by rw [← hq]; exact IntWalk.i64_in _ ⟨by omega, by omega⟩)
  have W3 : Hid (IntKind.i64.wrap (v.z * c.z) = r) := Lib.hid (by rw [← hr]; exact IntWalk.i64_in _ ⟨by omega, by omega⟩)
  rw [hp] at h1
  rw [hq] at h2
  rw [hr] at h3
  clear hv hc a b d e f g hp hq hr
  obtain ⟨c0, c1, c2⟩ := F0.out.top.three
  obtain ⟨d0, d1, d2⟩ := F0.out.at1.three
  have BL := Lib.hid F0.out.bl
  rw [HP.out]
  clear F0 HP
  go_enter Tryd.func73, Tryd.ntmps73
  go_wp2_with fail
  go_loop [5, 9] (fun s i => ∃ k : Nat, k ≤ 3 ∧ i = .int .i64 k ∧ s = .int .i64 (if k = 0 then 0 else if k = 1 then p else if k = 2 then p + q else p + q + r)) (fun _ i => 3 - (intOf i).toNat)
  case atStart => exact ⟨0, by omega, rfl, rfl⟩
  case round =>
    obtain ⟨k, hk, rfl, rfl⟩ := hrel
    rcases (by omega : k = 0 ∨ k = 1 ∨ k = 2 ∨ k = 3) with rfl | rfl | rfl | rfl
    · have i0 := idx3_0 v.x v.y v.z
      have w1 := W1.out
      go_wp2_with fail
      go_round
      case rel => exact ⟨1, by omega, by go_num, by simp⟩
      case measure => simp [intOf]
    · have i0 := idx3_1 v.x v.y v.z
      have w1 := W2.out
      go_wp2_with fail
      go_round
      case rel => exact ⟨2, by omega, by go_num, by simp⟩
      case measure => simp [intOf]
    · have i0 := idx3_2 v.x v.y v.z
      have w1 := W3.out
      go_wp2_with fail
      go_round
      case rel => exact ⟨3, by omega, by go_num, by simp⟩
      case measure => simp [intOf]
    · go_wp2_with fail
      go_ret
      exact ⟨ret_i64 (by simp), BL.out⟩

set_option maxHeartbeats 800000 in
theorem refPowerOf_any (v c : Ph) (hv : v.ok = true) (hc : c.ok = true) (w : World) : Calls Tryd.prog 41 #[.agg #[.int .i64 v.x, .int .i64 v.y, .int .i64 v.z], .agg #[.int .i64 c.x, .int .i64 c.y, .int .i64 c.z]] w fun e w' => e = .returned (.int .i64 (pwV v c)) ∧ Below w.heap.size w w' := by
  have BL := Lib.hid (Fr.b2 w 73 #[.int .i64 v.x, .int .i64 v.y, .int .i64 v.z] 73 #[.int .i64 c.x, .int .i64 c.y, .int .i64 c.z]).bl
  obtain ⟨a, b, d⟩ := Ph.ok_iff.1 hv
  obtain ⟨e, f, g⟩ := Ph.ok_iff.1 hc
  have h1 := mulB a e
  have h2 := mulB b f
  have h3 := mulB d g
  obtain ⟨p, hp⟩ : ∃ p, v.x * c.x = p := ⟨_, rfl⟩
  obtain ⟨q, hq⟩ : ∃ p, v.y * c.y = p := ⟨_, rfl⟩
  obtain ⟨r, hr⟩ : ∃ p, v.z * c.z = p := ⟨_, rfl⟩
  have HP : Hid (pwV v c = p + q + r) := Lib.hid (by unfold pwV; rw [hp, hq, hr])
  have W1 : IntKind.i64.wrap (v.x * c.x) = p := by rw [← hp]; exact IntWalk.i64_in _ ⟨by omega, by omega⟩
  have W2 : IntKind.i64.wrap (v.y * c.y) = q := by rw [← hq]; exact IntWalk.i64_in _ ⟨by omega, by omega⟩
  have W3 : IntKind.i64.wrap (v.z * c.z) = r := by rw [← hr]; exact IntWalk.i64_in _ ⟨by omega, by omega⟩
  rw [hp] at h1
  rw [hq] at h2
  rw [hr] at h3
  clear hv hc a b d e f g hp hq hr
  rw [HP.out]
  clear HP
  go_enter Tryd.func41, Tryd.ntmps41
  go_wp2_with fail
  go_ret
  exact ⟨rfl, BL.out⟩

/-- The error of two lists of phases. -/
def elE (v c : Ph) : Int := if v.ok = true then c.sz else 2
theorem elE_ok {v c : Ph} (hv : v.ok = true) (hc : c.ok = true) : elE v c = 0 := by unfold elE; rw [if_pos hv, Ph.sz_eq, if_pos hc]
theorem elE_bad {v c : Ph} (h : (v.ok && c.ok) = false) : elE v c = 2 := by
  unfold elE
  cases hv : v.ok with
  | false => rfl
  | true =>
    rw [hv, Bool.true_and] at h
    rw [if_pos rfl, Ph.sz_eq, if_neg (by rw [h]; simp)]
set_option maxHeartbeats 1000000 in
theorem checkElectric_any (v c : Ph) (w : World) : Calls Tryd.prog 72 #[.agg #[.int .i64 v.x, .int .i64 v.y, .int .i64 v.z], .agg #[.int .i64 c.x, .int .i64 c.y, .int .i64 c.z]] w fun e w' => e = .returned (.int .i64 (elE v c)) ∧ Below w.heap.size w w' := by
  have BL := Lib.hid (Fr.b2 w 73 #[.int .i64 v.x, .int .i64 v.y, .int .i64 v.z] 73 #[.int .i64 c.x, .int .i64 c.y, .int .i64 c.z]).bl
  have L0 := Lib.hid (Lies.new (Lies.bk3 (Bk.new w 73 #[.int .i64 v.x, .int .i64 v.y, .int .i64 v.z])) (.cells #[.int .i64 c.x, .int .i64 c.y, .int .i64 c.z] 73))
  have L1 := Lib.hid (Lies.bk3 (Bk.new1 w (.cells #[.int .i64 v.x, .int .i64 v.y, .int .i64 v.z] 73) 73 #[.int .i64 c.x, .int .i64 c.y, .int .i64 c.z]))
  cases h : v.ok with
  | false =>
    have he : Hid (szE 100000 [v.x, v.y, v.z] = 2) := Lib.hid (by rw [szE_three, if_neg (by have : okP v.x v.y v.z = false := h; rw [this]; simp)])
    have hr : Hid (elE v c = 2) := Lib.hid (by unfold elE; rw [if_neg (by rw [h]; simp)])
    clear h
    go_enter Tryd.func72, Tryd.ntmps72
    go_wp2_with fail
    refine (checkSizes_any 100000 (by omega) [v.x, v.y, v.z] _ _ (by simp [maxLen]) _ L0.out).mono ?_
    rintro e w' ⟨rfl, rfl⟩
    rw [he.out]
    go_wp2_with fail
    go_ret
    exact ⟨ret_i64 hr.out.symm, BL.out⟩
  | true =>
    have he : Hid (szE 100000 [v.x, v.y, v.z] = 0) := Lib.hid (by rw [szE_three, if_pos (show okP v.x v.y v.z = true from h)])
    have hr : Hid (elE v c = szE 100000 [c.x, c.y, c.z]) := Lib.hid (by unfold elE; rw [if_pos h]; rfl)
    clear h
    go_enter Tryd.func72, Tryd.ntmps72
    go_wp2_with fail
    refine (checkSizes_any 100000 (by omega) [v.x, v.y, v.z] _ _ (by simp [maxLen]) _ L0.out).mono ?_
    rintro e w' ⟨rfl, rfl⟩
    rw [he.out]
    go_wp2_with fail
    refine (checkSizes_any 100000 (by omega) [c.x, c.y, c.z] _ _ (by simp [maxLen]) _ L1.out).mono ?_
    rintro e w' ⟨rfl, rfl⟩
    go_wp2_with fail
    go_ret
    exact ⟨ret_i64 hr.out.symm, BL.out⟩

set_option maxHeartbeats 1000000 in
theorem PowerOf_any (v c : Ph) (w : World) : Calls Tryd.prog 39 #[.agg #[.int .i64 v.x, .int .i64 v.y, .int .i64 v.z], .agg #[.int .i64 c.x, .int .i64 c.y, .int .i64 c.z]] w fun e w' => e = .returned (.tuple #[.int .i64 (if (v.ok && c.ok) = true then pwV v c else 0), .int .i64 (if (v.ok && c.ok) = true then 0 else 2)]) ∧ Below w.heap.size w w' := by
  have F0 := Lib.hid (Fr.b2 w 73 #[.int .i64 v.x, .int .i64 v.y, .int .i64 v.z] 73 #[.int .i64 c.x, .int .i64 c.y, .int .i64 c.z])
  cases h : v.ok && c.ok with
  | false =>
    have he := Lib.hid (elE_bad h)
    clear h
    go_enter Tryd.func39, Tryd.ntmps39
    go_wp2_with fail
    refine (checkElectric_any v c _).mono ?_
    rintro e w1 ⟨rfl, hb1⟩
    rw [he.out]
    have F1 := Lib.hid (F0.out.call hb1)
    clear hb1
    go_wp2_with fail
    go_ret2
    exact ⟨rfl, F1.out.bl⟩
  | true =>
    have hh := h
    simp only [Bool.and_eq_true] at hh
    have he := Lib.hid (elE_ok hh.1 hh.2)
    have HS := Lib.hid (sumOfProducts_any v c hh.1 hh.2)
    clear h hh
    go_enter Tryd.func39, Tryd.ntmps39
    go_wp2_with fail
    refine (checkElectric_any v c _).mono ?_
    rintro e w1 ⟨rfl, hb1⟩
    rw [he.out]
    have F1 := Lib.hid (F0.out.call hb1)
    obtain ⟨c0, c1, c2⟩ := F1.out.top.three
    obtain ⟨d0, d1, d2⟩ := F1.out.at1.three
    clear hb1 F0
    go_wp2_with fail
    refine (HS.out _).mono ?_
    rintro e w2 ⟨rfl, hb2⟩
    have F2 := Lib.hid (F1.out.call hb2)
    clear hb2 F1 c0 c1 c2 d0 d1 d2
    go_wp2_with fail
    go_ret2
    exact ⟨rfl, F2.out.bl⟩
end Go.Proofs.YtohldmmfnjfgmaaDoor
