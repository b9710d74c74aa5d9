
/-
  The walks of the functions that turn vectors.
-/
import Derived.Test.YtohldmmfnjfgmaaDoorTVec2
namespace Go.Proofs.YtohldmmfnjfgmaaDoor
open Go.RowKit

theorem tmod_cases (s : Int) : (s.tmod 6 < 0 ∧ s.tmod 6 = ((s % 6).toNat : Int) - 6) ∨ (¬ s.tmod 6 < 0 ∧ s.tmod 6 = ((s % 6).toNat : Int)) := by
  have h1 := Int.emod_nonneg s (show (6 : Int) ≠ 0 by decide)
  have h2 := Int.emod_lt_of_pos s (show (0 : Int) < 6 by decide)
  rw [Int.tmod_eq_emod]
  split
  · omega
  · have : (6 : Int).natAbs = 6 := rfl
    omega

set_option maxHeartbeats 1000000 in
theorem turned_any (v : T3) (s : Int) (h : v.In 1000000000000) (w : World) : Calls Tryd.prog 82 #[(.agg #[.int .i64 v.a, .int .i64 v.b]), .int .i64 s] w fun e w' => e = .returned (.agg #[.int .i64 (turned v s).a, .int .i64 (turned v s).b]) ∧ Below w.heap.size w w' := by
  obtain ⟨r, hr⟩ : ∃ r, (s % 6).toNat = r := ⟨_, rfl⟩
  have hr6 : r < 6 := by omega
  unfold turned
  rw [hr]
  have HV := Lib.hid h
  rcases tmod_cases s with ⟨n, e⟩ | ⟨n, e⟩
  all_goals
    rw [hr] at e
    clear h hr
    go_enter Tryd.func82, Tryd.ntmps82
    go_wp2
    have X0 := (Bk.new w 24 #[.int .i64 v.a, .int .i64 v.b]).alloc (.cells #[.int .i64 0, .int .i64 0] 24)
    have Y0 := Bk.new1 w (.cells #[.int .i64 v.a, .int .i64 v.b] 24) 24 #[.int .i64 0, .int .i64 0]
    have B0 := box2 w #[.int .i64 v.a, .int .i64 v.b] #[.int .i64 0, .int .i64 0] 24 24
    clear n e
    go_loopw [13] (fun i wr => ∃ k : Nat, k ≤ r ∧ i = .int .i64 k ∧ Bk wr w.heap.size 24 #[.int .i64 (turnN k v).a, .int .i64 (turnN k v).b] ∧ Bk wr (w.heap.size + 1) 24 #[.int .i64 0, .int .i64 0] ∧ Below w.heap.size w wr) (fun i _ => r - (intOf i).toNat)
    case atStart => exact ⟨0, Nat.zero_le _, rfl, X0, Y0, B0⟩
    case round =>
      obtain ⟨k, hk, rfl, hx, hy, hb⟩ := hrel
      clear X0 Y0 B0
      obtain ⟨c0, c1, f0, f1⟩ := hx.two
      obtain ⟨d0, d1, g0, g1⟩ := hy.two
      have HX := Lib.hid hx
      have HY := Lib.hid hy
      have HB := Lib.hid hb
      obtain ⟨a0, a1, b0, b1, s0, s1⟩ := HV.out.turnN k
      clear hx hy hb
      by_cases hlt : k < r
      · go_wp2
        go_roundw
        case rel => exact ⟨k + 1, by omega, by go_num, HX.out.set2 _ _, (HY.out.far (by simp) _).far (by simp) _, (HB.out.setCell (by simp) _).setCell (by simp) _⟩
        case measure => simp [intOf]; omega
      · obtain rfl : k = r := by omega
        go_wp2
        exact bodyPost_ret (v := (.agg #[.int .i64 (turnN k v).a, .int .i64 (turnN k v).b])) (by simp [results, Tryd.results82, go_sem, d0, d1]) rfl ⟨rfl, (HB.out.setCell (by simp) _).setCell (by simp) _⟩

set_option maxHeartbeats 400000 in
theorem Mod_six (s : Int) (w : World) : Calls Tryd.prog 83 #[.int .i64 s, .int .i64 6] w fun e w' => e = .returned (.int .i64 (((s % 6).toNat : Nat) : Int)) ∧ w = w' := by
  obtain ⟨r, hr⟩ : ∃ r, (s % 6).toNat = r := ⟨_, rfl⟩
  have hr6 : r < 6 := by omega
  rw [hr]
  rcases tmod_cases s with ⟨n, e⟩ | ⟨n, e⟩
  all_goals
    rw [hr] at e
    clear hr
    go_enter Tryd.func83, Tryd.ntmps83
    go_wp2
    go_ret
    exact ⟨ret_i64 (by omega), rfl⟩

set_option maxHeartbeats 1000000 in
theorem refTurned_any (v : T3) (s : Int) (h : v.In 1000000000000) (w : World) : Calls Tryd.prog 58 #[(.agg #[.int .i64 v.a, .int .i64 v.b]), .int .i64 s] w fun e w' => e = .returned (.agg #[.int .i64 (turned v s).a, .int .i64 (turned v s).b]) ∧ Below w.heap.size w w' := by
  obtain ⟨r, hr⟩ : ∃ r, (s % 6).toNat = r := ⟨_, rfl⟩
  have hr6 : r < 6 := by omega
  have HM : Hid (∀ w : World, Calls Tryd.prog 83 #[.int .i64 s, .int .i64 6] w fun e w' => e = .returned (.int .i64 (r : Int)) ∧ w = w') := Lib.hid (fun w => by have := Mod_six s w; rwa [hr] at this)
  unfold turned
  rw [hr]
  have HV := Lib.hid h
  clear h hr
  go_enter Tryd.func58, Tryd.ntmps58
  go_wp2_with fail
  have X0 := (Bk.new w 24 #[.int .i64 v.a, .int .i64 v.b]).alloc (.cells #[.int .i64 0, .int .i64 0] 24)
  have Y0 := Bk.new1 w (.cells #[.int .i64 v.a, .int .i64 v.b] 24) 24 #[.int .i64 0, .int .i64 0]
  have B0 := box2 w #[.int .i64 v.a, .int .i64 v.b] #[.int .i64 0, .int .i64 0] 24 24
  go_loopw [5] (fun i wr => ∃ k : Nat, k ≤ r ∧ i = .int .i64 k ∧ Bk wr w.heap.size 24 #[.int .i64 (turnN k v).a, .int .i64 (turnN k v).b] ∧ Bk wr (w.heap.size + 1) 24 #[.int .i64 0, .int .i64 0] ∧ Below w.heap.size w wr) (fun i _ => r - (intOf i).toNat)
  case atStart => exact ⟨0, Nat.zero_le _, rfl, X0, Y0, B0⟩
  case round =>
    obtain ⟨k, hk, rfl, hx, hy, hb⟩ := hrel
    clear X0 Y0 B0
    obtain ⟨c0, c1, f0, f1⟩ := hx.two
    obtain ⟨d0, d1, g0, g1⟩ := hy.two
    have HX := Lib.hid hx
    have HY := Lib.hid hy
    have HB := Lib.hid hb
    obtain ⟨a0, a1, b0, b1, s0, s1⟩ := HV.out.turnN k
    clear hx hy hb
    by_cases hlt : k < r
    · go_wp2_with (go_at_call 83; refine (HM.out _).mono ?_; rintro e w' ⟨rfl, rfl⟩)
      go_roundw
      case rel => exact ⟨k + 1, by omega, by go_num, HX.out.set2 _ _, (HY.out.far (by simp) _).far (by simp) _, (HB.out.setCell (by simp) _).setCell (by simp) _⟩
      case measure => simp [intOf]; omega
    · obtain rfl : k = r := by omega
      go_wp2_with (go_at_call 83; refine (HM.out _).mono ?_; rintro e w' ⟨rfl, rfl⟩)
      exact bodyPost_ret (v := (.agg #[.int .i64 (turnN k v).a, .int .i64 (turnN k v).b])) (by simp [results, Tryd.results58, go_sem, d0, d1]) rfl ⟨rfl, (HB.out.setCell (by simp) _).setCell (by simp) _⟩
end Go.Proofs.YtohldmmfnjfgmaaDoor
