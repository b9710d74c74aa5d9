
/-
  The walks of the roots: sort.Search with the program's closure, the reference's own loop.
-/
import Derived.Test.YtemjefhfplaibaaDoorTVecF
namespace Go.Proofs.YtemjefhfplaibaaDoor
open Go.RowKit

/-- r is the root of n, rounded up. -/
def IsUp (n : Int) (r : Nat) : Prop := n ≤ (r : Int) * r ∧ ∀ m : Nat, m < r → (m : Int) * m < n
/-- r is the root of n, rounded down. -/
def IsDn (n : Int) (r : Nat) : Prop := (r : Int) * r ≤ n ∧ n < ((r : Int) + 1) * (r + 1)
theorem IsUp.iff {n : Int} {r : Nat} (h : IsUp n r) (m : Nat) : n ≤ (m : Int) * m ↔ r ≤ m := by
  constructor
  · intro hm
    apply Nat.le_of_not_lt
    intro hlt
    have := h.2 m hlt
    omega
  · intro hm
    have := h.1
    have := sq_mono (x := (r : Int)) (y := m) (by omega) (by omega)
    omega
theorem IsDn.lt {n : Int} {r m : Nat} (h : IsDn n r) (hm : (m : Int) * m ≤ n) : m ≤ r := by
  apply Nat.le_of_not_lt
  intro hlt
  have := sq_mono (x := (r : Int) + 1) (y := m) (by omega) (by omega)
  have := h.2
  omega
/-- Up is down, or one more. -/
theorem IsUp.of_dn {n : Int} {r : Nat} (h : IsDn n r) : IsUp n (if (r : Int) * r < n then r + 1 else r) := by
  split
  · rename_i hlt
    refine ⟨by have := h.2; push_cast; omega, fun m hm => ?_⟩
    have := sq_mono (x := (m : Int)) (y := r) (by omega) (by omega)
    omega
  · rename_i hlt
    refine ⟨by omega, fun m hm => ?_⟩
    have h1 := h.1
    have h2 := sq_mono (x := (m : Int) + 1) (y := r) (by omega) (by omega)
    have e : ((m : Int) + 1) * (m + 1) = m * m + 2 * m + 1 := by grind
    omega
theorem IsUp.unique {n : Int} {r s : Nat} (h : IsUp n r) (g : IsUp n s) : r = s := by
  have h1 := (h.iff s).1 g.1
  have h2 := (g.iff r).1 h.1
  omega
theorem dn_exists : ∀ (k : Nat) (n : Int), 0 ≤ n → n < (k : Int) * k → ∃ r : Nat, IsDn n r
  | 0, n, h0, h => by simp at h; omega
  | k + 1, n, h0, h => by
    by_cases hk : n < (k : Int) * k
    · exact dn_exists k n h0 hk
    · exact ⟨k, by omega, by push_cast at h; exact h⟩

set_option maxHeartbeats 400000 in
theorem root1_any (i n : Int) (hi : 0 ≤ i ∧ i ≤ 1000000000) (b : Nat) (w : World) (hc : w.cell? ⟨b, 0, none⟩ = some (.int .i64 n)) :
    Calls Tryd.prog 100 #[.int .i64 i, .pointer (some ⟨b, 0, none⟩)] w fun e w' => e = .returned (.bool (decide (n ≤ i * i))) ∧ w = w' := by
  obtain ⟨m1, m2⟩ := mulB (A := 1000000000) (B := 1000000000) (x := i) (y := i) (by omega) (by omega)
  have t := IntWalk.wrap64_in (i * i) ⟨by omega, by omega⟩
  have HT := Lib.hid t
  clear m1 m2 t
  by_cases h : n ≤ i * i
  all_goals
    go_enter Tryd.func100, Tryd.ntmps100
    go_wp2
    go_ret
    exact ⟨ret_bool (by simp only [HT.out]), rfl⟩

set_option maxHeartbeats 1000000 in
theorem search_any (n : Int) (most r : Nat) (hm : most ≤ 1000000000) (hr : IsUp n r) (hrm : r ≤ most) (b : Nat) (w : World) (hc : w.cell? ⟨b, 0, none⟩ = some (.int .i64 n)) :
    Calls Tryd.prog 99 #[.int .i64 most, .func (.func 100) #[] #[.pointer (some ⟨b, 0, none⟩)]] w fun e w' => e = .returned (.int .i64 r) ∧ w = w' := by
  have HR := Lib.hid hr
  have HC := Lib.hid hc
  clear hr hc
  go_enter Tryd.func99, Tryd.ntmps99
  go_wp2_with fail
  go_loop [5, 6] (fun x y => ∃ lo hi : Nat, x = .int .i64 lo ∧ y = .int .i64 hi ∧ lo ≤ r ∧ r ≤ hi ∧ hi ≤ most) (fun x y => (intOf y).toNat - (intOf x).toNat)
  case atStart => exact ⟨0, most, rfl, rfl, by omega, by omega, by omega⟩
  case round =>
    obtain ⟨lo, hi, rfl, rfl, h1, h2, h3⟩ := hrel
    by_cases hlt : lo < hi
    · obtain ⟨m, hm'⟩ : ∃ m, (lo + hi) / 2 = m := ⟨_, rfl⟩
      have g1 : lo ≤ m := by omega
      have g2 : m < hi := by omega
      have hme : ((lo : Int) + hi) / 2 = m := by omega
      have hs0 : (0 : Int) ≤ (lo : Int) + hi := by omega
      have hs1 : (lo : Int) + hi ≤ 2000000000 := by omega
      have HM := Lib.hid hm'
      clear hm'
      by_cases hd : n ≤ (m : Int) * m
      · have hr1 : r ≤ m := (HR.out.iff m).1 hd
        have HD := Lib.hid hd
        clear hd
        go_wp2_with fail
        refine (root1_any (m : Int) n (by omega) b _ HC.out).mono ?_
        rintro e w' ⟨rfl, rfl⟩
        rw [decide_eq_true HD.out]
        go_wp2_with fail
        go_round
        case rel => exact ⟨lo, m, rfl, rfl, by omega, by omega, by omega⟩
        case measure => simp [intOf]; omega
      · have hr1 : m < r := by have h0 := (HR.out.iff m).2; exact Nat.lt_of_not_le (fun hle => hd (h0 hle))
        have HD := Lib.hid hd
        clear hd
        go_wp2_with fail
        refine (root1_any (m : Int) n (by omega) b _ HC.out).mono ?_
        rintro e w' ⟨rfl, rfl⟩
        rw [decide_eq_false (by have := HD.out; omega)]
        go_wp2_with fail
        go_round
        case rel => exact ⟨m + 1, hi, by go_num, rfl, by omega, by omega, by omega⟩
        case measure => simp [intOf]; omega
    · obtain rfl : lo = hi := by omega
      obtain rfl : lo = r := by omega
      go_wp2_with fail
      go_ret
      exact ⟨rfl, rfl⟩

/-- A range in a box. -/
def RangeAt (w : World) (a b : Int) (e : Ending) (w' : World) : Prop := e = .returned (.agg #[.int .i64 a, .int .i64 b]) ∧ Below w.heap.size w w'
/-- The ends of a root. -/
def rootLo (n : Int) (r : Nat) : Int := if (r : Int) * r = n then r else r - 1
set_option maxHeartbeats 1000000 in
theorem root_any (n : Int) (r most : Nat) (hm : most ≤ 1000000000) (hr : IsUp n r) (hrm : r ≤ most) (w : World) : Calls Tryd.prog 65 #[.int .i64 n, .int .i64 most] w (RangeAt w (rootLo n r) r) := by
  obtain ⟨m1, m2⟩ := mulB (A := 1000000000) (B := 1000000000) (x := (r : Int)) (y := r) (by omega) (by omega)
  have F0 := Lib.hid (Fr.b2 w 3 #[.int .i64 n] 32 #[.int .i64 0, .int .i64 0])
  have C0 : Hid (((w.alloc (.cells #[.int .i64 n] 3)).alloc (.cells #[.int .i64 0, .int .i64 0] 32)).cell? ⟨w.heap.size, 0, none⟩ = some (.int .i64 n)) := Lib.hid (F0.out.at1.cell 0)
  have HS := Lib.hid hr
  have t := Lib.hid (IntWalk.wrap64_in ((r : Int) * r) ⟨by omega, by omega⟩)
  have ti := Lib.hid (IntWalk.i64_in ((r : Int) * r) ⟨by omega, by omega⟩)
  have hr0 : (r : Int) ≤ 1000000000 := by omega
  clear hr m1 m2
  unfold rootLo
  by_cases h : (r : Int) * r = n
  · rw [if_pos h]
    have h' : (wrap64 ((r : Int) * r) == n) = true := by rw [t.out, h]; simp
    have HH := Lib.hid h
    clear h
    go_enter Tryd.func65, Tryd.ntmps65
    go_wp2_with fail
    refine (search_any n most r hm HS.out hrm w.heap.size _ C0.out).mono ?_
    rintro e w' ⟨rfl, rfl⟩
    go_wp2_with fail
    exact bodyPost_ret (v := .agg #[.int .i64 r, .int .i64 r]) (by simp [results, Tryd.results65, go_sem]) rfl ⟨rfl, (by repeat (first | exact F0.out.bl | refine Below.drew ?_ | refine Below.setCell ?_ (by first | (simp; done) | (simp; omega) | omega) _ | refine Below.alloc ?_ (by first | (simp; done) | (simp; omega) | omega) _ | exact Below.refl _ _))⟩
  · rw [if_neg h]
    have h' : (wrap64 ((r : Int) * r) == n) = false := by rw [t.out]; simp [h]
    have HH := Lib.hid h
    clear h
    go_enter Tryd.func65, Tryd.ntmps65
    go_wp2_with fail
    refine (search_any n most r hm HS.out hrm w.heap.size _ C0.out).mono ?_
    rintro e w' ⟨rfl, rfl⟩
    go_wp2_with fail
    exact bodyPost_ret (v := .agg #[.int .i64 ((r : Int) - 1), .int .i64 r]) (by simp [results, Tryd.results65, go_sem]) rfl ⟨rfl, (by repeat (first | exact F0.out.bl | refine Below.drew ?_ | refine Below.setCell ?_ (by first | (simp; done) | (simp; omega) | omega) _ | refine Below.alloc ?_ (by first | (simp; done) | (simp; omega) | omega) _ | exact Below.refl _ _))⟩

theorem two_pow (j : Nat) : (2 : Int) ^ (j + 1) = 2 * 2 ^ j := by rw [Int.pow_succ]; omega
set_option maxHeartbeats 2000000 in
theorem Root_any (n : Int) (r : Nat) (hn : 0 ≤ n ∧ n ≤ 1000000000000) (hr : IsDn n r) (w : World) : Calls Tryd.prog 71 #[.int .i64 n] w fun e w' => e = .returned (.int .i64 r) ∧ w = w' := by
  obtain ⟨n0, n1⟩ := hn
  have hr2 : r ≤ 1000000 := by
    apply Nat.le_of_not_lt
    intro hlt
    have := sq_mono (x := (1000001 : Int)) (y := r) (by omega) (by omega)
    have := hr.1
    omega
  have HR := Lib.hid hr
  clear hr
  go_enter Tryd.func71, Tryd.ntmps71
  go_wp2_with fail
  go_loop [3, 4] (fun x y => ∃ s b : Nat, x = .int .i64 s ∧ y = .int .i64 b ∧ s ≤ r ∧ b ≤ 1073741824 ∧ ((b = 0 ∧ s = r) ∨ (r < s + 2 * b ∧ ∃ j, b = 2 ^ j))) (fun x y => (intOf y).toNat)
  case atStart => exact ⟨0, 1073741824, rfl, rfl, by omega, by omega, .inr ⟨by omega, 30, by decide⟩⟩
  case round =>
    obtain ⟨s, b, rfl, rfl, h1, h2, h3⟩ := hrel
    by_cases hb : b = 0
    · obtain rfl : s = r := by rcases h3 with ⟨_, h⟩ | ⟨h, j, hj⟩; exact h; exact absurd hj (by rw [hb]; exact (Nat.ne_of_lt (Nat.two_pow_pos j)))
      subst hb
      clear h3
      go_wp2_with fail
      go_ret
      exact ⟨rfl, rfl⟩
    · have hb0 : 0 < b := by omega
      have h4 : r < s + 2 * b ∧ ∃ j, b = 2 ^ j := by rcases h3 with ⟨h, _⟩ | h; exact absurd h hb; exact h
      obtain ⟨h5, j, hj⟩ := h4
      have hj' : (b = 1 ∧ b / 2 = 0) ∨ (b = 2 * (b / 2) ∧ ∃ i, b / 2 = 2 ^ i) := by
        cases j with
        | zero => left; simp at hj; omega
        | succ i => right; rw [Nat.pow_succ] at hj; exact ⟨by omega, i, by omega⟩
      have HJ := Lib.hid hj'
      obtain ⟨m1, m2⟩ := mulB (A := 2000000000) (B := 2000000000) (x := (s : Int) + b) (y := (s : Int) + b) (by omega) (by omega)
      have t := Lib.hid (IntWalk.wrap64_in (((s : Int) + b) * ((s : Int) + b)) ⟨by omega, by omega⟩)
      clear hb h3 hj hj' m1 m2
      by_cases hle : ((s : Int) + b) * ((s : Int) + b) ≤ n
      · have hsb : s + b ≤ r := HR.out.lt (m := s + b) (by push_cast; exact hle)
        have hw : (decide (wrap64 (((s : Int) + b) * ((s : Int) + b)) ≤ n)) = true := by rw [t.out]; simp [hle]
        have hw' : wrap64 (((s : Int) + b) * ((s : Int) + b)) ≤ n := by rw [t.out]; exact hle
        clear hle
        go_wp2_with fail
        go_round
        case rel =>
          refine ⟨s + b, b / 2, by go_num, by rw [show ((b / 2 : Nat) : Int) = (b : Int) / 2 from by omega], hsb, by omega, ?_⟩
          rcases HJ.out with ⟨e, e'⟩ | ⟨e, i, hi⟩
          · left; exact ⟨e', by omega⟩
          · right; exact ⟨by omega, i, hi⟩
        case measure => simp [intOf]; omega
      · have hsb : r < s + b := by
          apply Nat.lt_of_not_le
          intro hge
          apply hle
          have := sq_mono (x := (s : Int) + b) (y := r) (by omega) (by omega)
          have := HR.out.1
          omega
        have hw' : ¬ wrap64 (((s : Int) + b) * ((s : Int) + b)) ≤ n := by rw [t.out]; exact hle
        clear hle
        go_wp2_with fail
        go_round
        case rel =>
          refine ⟨s, b / 2, rfl, by rw [show ((b / 2 : Nat) : Int) = (b : Int) / 2 from by omega], h1, by omega, ?_⟩
          rcases HJ.out with ⟨e, e'⟩ | ⟨e, i, hi⟩
          · left; exact ⟨e', by omega⟩
          · right; exact ⟨by omega, i, hi⟩
        case measure => simp [intOf]; omega

set_option maxHeartbeats 1000000 in
theorem RootUp_any (n : Int) (r s : Nat) (hn : 0 ≤ n ∧ n ≤ 1000000000000) (hr : IsDn n r) (hs : IsUp n s) (w : World) : Calls Tryd.prog 72 #[.int .i64 n] w fun e w' => e = .returned (.int .i64 s) ∧ w = w' := by
  have hr2 : r ≤ 1000000 := by
    apply Nat.le_of_not_lt
    intro hlt
    have := sq_mono (x := (1000001 : Int)) (y := r) (by omega) (by omega)
    have := hr.1
    omega
  have e : s = if (r : Int) * r < n then r + 1 else r := hs.unique (IsUp.of_dn hr)
  have HR := Lib.hid hr
  obtain ⟨m1, m2⟩ := mulB (A := 1000000) (B := 1000000) (x := (r : Int)) (y := r) (by omega) (by omega)
  have t := Lib.hid (IntWalk.wrap64_in ((r : Int) * r) ⟨by omega, by omega⟩)
  clear hr hs m1 m2
  by_cases h : (r : Int) * r < n
  all_goals
    simp only [h, if_true, if_false] at e
    rw [e]
    clear e
    have hw' := h
    rw [← t.out] at hw'
    have HN := Lib.hid hn
    clear h hn
    go_enter Tryd.func72, Tryd.ntmps72
    go_wp2_with fail
    refine (Root_any n r HN.out HR.out _).mono ?_
    rintro e w' ⟨rfl, rfl⟩
    go_wp2_with fail
    go_ret
    exact ⟨rfl, rfl⟩
end Go.Proofs.YtemjefhfplaibaaDoor
