
/-
  The walks of SectorOf at vectors that have a sector.
-/
import Derived.Test.YtemjefhfplaibaaDoorTSec
namespace Go.Proofs.YtemjefhfplaibaaDoor
open Go.RowKit

theorem Fr.third {w W : World} {v : T3} {g : Nat} {bs : List (Nat × TypeId × Array Value)} (h : Fr w W ((g, 24, #[.int .i64 v.a, .int .i64 v.b]) :: bs)) : W.cell? ⟨g, 0, none⟩ = some (.int .i64 v.a) ∧ W.cell? ⟨g, 1, none⟩ = some (.int .i64 v.b) := ⟨h.top.cell 0, h.top.cell 1⟩

set_option maxHeartbeats 2000000 in
theorem SectorOf_at (a b : Int) (h : okT ⟨a, b⟩ = true) (hz : (a = 0 ∧ ¬ b = 0) ∨ ¬ a = 0) (w : World) : Calls Tryd.prog 16 #[.agg #[.int .i64 a, .int .i64 b]] w fun e w' => e = .returned (.tuple #[.int .i64 (secV ⟨a, b⟩), .int .i64 0]) ∧ Below w.heap.size w w' := by
  obtain ⟨s, hs⟩ : ∃ s, secV ⟨a, b⟩ = s := ⟨_, rfl⟩
  have hz' : ¬ ((T3.mk a b).a = 0 ∧ (T3.mk a b).b = 0) := by simp only; omega
  have HH : Hid (fstB (turned ⟨a, b⟩ (-(s : Int))) = true ∧ s < 6) := Lib.hid (by rw [← hs]; exact sec_hit _ hz')
  have HM : Hid (∀ k, k < s → fstB (turned ⟨a, b⟩ (-(k : Int))) = false) := Lib.hid (by rw [← hs]; exact fun k hk => sec_miss _ hz' k hk)
  have he := Lib.hid (vE_ok h)
  have HI := Lib.hid ((okT_in h).more (K := 1000000000000) (by omega))
  have hs6 : s < 6 := HH.out.2
  rw [hs]
  clear hs hz' h
  rcases hz with ⟨rfl, hb⟩ | hb
  · have F0 := Lib.hid (Fr.b1 w 24 #[.int .i64 0, .int .i64 b])
    go_enter Tryd.func16, Tryd.ntmps16
    go_wp2_with fail
    refine (checkVector_any ⟨0, b⟩ _).mono ?_
    rintro e w1 ⟨rfl, hb1⟩
    rw [he.out]
    have F1 := Lib.hid (F0.out.call hb1)
    obtain ⟨c0, c1, _, _⟩ := F1.out.top.two
    clear hb1 F0
    go_wp2_with fail
    clear c0 c1
    go_loopw [5] (fun i wr => ∃ k : Nat, k ≤ s ∧ i = .int .i64 k ∧ Fr w wr [(w.heap.size, 24, #[.int .i64 0, .int .i64 b])]) (fun i _ => s - (intOf i).toNat)
    case atStart => exact ⟨0, Nat.zero_le _, rfl, F1.out⟩
    case round =>
      obtain ⟨k, hk, rfl, hf⟩ := hrel
      clear F1
      have FK := Lib.hid hf
      obtain ⟨c0, c1, _, _⟩ := hf.top.two
      clear hf
      by_cases hlt : k < s
      · have hfst := Lib.hid (HM.out k hlt)
        go_wp2_with fail
        refine (turned_any ⟨0, b⟩ (-(k : Int)) HI.out _).mono ?_
        rintro e w2 ⟨rfl, hb2⟩
        have F2 := Lib.hid (FK.out.call hb2)
        clear hb2 c0 c1
        go_wp2_with fail
        refine (isInFirst_any _ _).mono ?_
        rintro e w3 ⟨rfl, hb3⟩
        rw [hfst.out]
        have F3 := Lib.hid (F2.out.call hb3)
        clear hb3
        go_wp2_with fail
        go_roundw
        case rel => exact ⟨k + 1, by omega, by go_num, F3.out⟩
        case measure => simp [intOf]; omega
      · obtain rfl : k = s := by omega
        go_wp2_with fail
        refine (turned_any ⟨0, b⟩ (-(k : Int)) HI.out _).mono ?_
        rintro e w2 ⟨rfl, hb2⟩
        have F2 := Lib.hid (FK.out.call hb2)
        clear hb2 c0 c1
        go_wp2_with fail
        refine (isInFirst_any _ _).mono ?_
        rintro e w3 ⟨rfl, hb3⟩
        rw [HH.out.1]
        have F3 := Lib.hid (F2.out.call hb3)
        clear hb3
        go_wp2_with fail
        go_ret2
        exact ⟨rfl, F3.out.bl⟩
  · have F0 := Lib.hid (Fr.b1 w 24 #[.int .i64 a, .int .i64 b])
    go_enter Tryd.func16, Tryd.ntmps16
    go_wp2_with fail
    refine (checkVector_any ⟨a, b⟩ _).mono ?_
    rintro e w1 ⟨rfl, hb1⟩
    rw [he.out]
    have F1 := Lib.hid (F0.out.call hb1)
    obtain ⟨c0, c1, _, _⟩ := F1.out.top.two
    clear hb1 F0
    go_wp2_with fail
    clear c0 c1
    go_loopw [5] (fun i wr => ∃ k : Nat, k ≤ s ∧ i = .int .i64 k ∧ Fr w wr [(w.heap.size, 24, #[.int .i64 a, .int .i64 b])]) (fun i _ => s - (intOf i).toNat)
    case atStart => exact ⟨0, Nat.zero_le _, rfl, F1.out⟩
    case round =>
      obtain ⟨k, hk, rfl, hf⟩ := hrel
      clear F1
      have FK := Lib.hid hf
      obtain ⟨c0, c1, _, _⟩ := hf.top.two
      clear hf
      by_cases hlt : k < s
      · have hfst := Lib.hid (HM.out k hlt)
        go_wp2_with fail
        refine (turned_any ⟨a, b⟩ (-(k : Int)) HI.out _).mono ?_
        rintro e w2 ⟨rfl, hb2⟩
        have F2 := Lib.hid (FK.out.call hb2)
        clear hb2 c0 c1
        go_wp2_with fail
        refine (isInFirst_any _ _).mono ?_
        rintro e w3 ⟨rfl, hb3⟩
        rw [hfst.out]
        have F3 := Lib.hid (F2.out.call hb3)
        clear hb3
        go_wp2_with fail
        go_roundw
        case rel => exact ⟨k + 1, by omega, by go_num, F3.out⟩
        case measure => simp [intOf]; omega
      · obtain rfl : k = s := by omega
        go_wp2_with fail
        refine (turned_any ⟨a, b⟩ (-(k : Int)) HI.out _).mono ?_
        rintro e w2 ⟨rfl, hb2⟩
        have F2 := Lib.hid (FK.out.call hb2)
        clear hb2 c0 c1
        go_wp2_with fail
        refine (isInFirst_any _ _).mono ?_
        rintro e w3 ⟨rfl, hb3⟩
        rw [HH.out.1]
        have F3 := Lib.hid (F2.out.call hb3)
        clear hb3
        go_wp2_with fail
        go_ret2
        exact ⟨rfl, F3.out.bl⟩
theorem SectorOf_ok (v : T3) (h : okT v = true) (hz : ¬ (v.a = 0 ∧ v.b = 0)) (w : World) : Calls Tryd.prog 16 #[(.agg #[.int .i64 v.a, .int .i64 v.b])] w fun e w' => e = .returned (.tuple #[.int .i64 (secV v), .int .i64 0]) ∧ Below w.heap.size w w' := SectorOf_at v.a v.b h (by omega) w

set_option maxHeartbeats 2000000 in
theorem refSectorOf_any (v : T3) (h : okT v = true) (hz : ¬ (v.a = 0 ∧ v.b = 0)) (w : World) : Calls Tryd.prog 22 #[(.agg #[.int .i64 v.a, .int .i64 v.b])] w fun e w' => e = .returned (.int .i64 (secV v)) ∧ Below w.heap.size w w' := by
  obtain ⟨s, hs⟩ : ∃ s, secV v = s := ⟨_, rfl⟩
  have HH : Hid (fstB (turned v (-(s : Int))) = true ∧ s < 6) := Lib.hid (by rw [← hs]; exact sec_hit _ hz)
  have HM : Hid (∀ k, k < s → fstB (turned v (-(k : Int))) = false) := Lib.hid (by rw [← hs]; exact fun k hk => sec_miss _ hz k hk)
  have HI := Lib.hid ((okT_in h).more (K := 1000000000000) (by omega))
  have hs6 : s < 6 := HH.out.2
  rw [hs]
  clear hs hz h
  have F0 := Fr.b1 w 24 #[.int .i64 v.a, .int .i64 v.b]
  go_enter Tryd.func22, Tryd.ntmps22
  go_wp2_with fail
  go_loopw [3] (fun i wr => ∃ k : Nat, k ≤ s ∧ i = .int .i64 k ∧ Fr w wr [(w.heap.size, 24, #[.int .i64 v.a, .int .i64 v.b])]) (fun i _ => s - (intOf i).toNat)
  case atStart => exact ⟨0, Nat.zero_le _, rfl, F0⟩
  case round =>
    obtain ⟨k, hk, rfl, hf⟩ := hrel
    clear F0
    have FK := Lib.hid hf
    obtain ⟨c0, c1⟩ := hf.third
    clear hf
    have hk6 : (k : Int) < 6 := by omega
    have hfst : Hid (fstB (turned v (-(k : Int))) = decide (k = s)) := Lib.hid (by
      by_cases e : k = s
      · subst e; rw [HH.out.1]; simp
      · rw [HM.out k (by omega)]; simp [e])
    go_wp2_with fail
    refine (refTurned_any v (-(k : Int)) HI.out _).mono ?_
    rintro e w2 ⟨rfl, hb2⟩
    have F2 := Lib.hid ((FK.out.call hb2).new (.cells #[.int .i64 (turned v (-(k : Int))).a, .int .i64 (turned v (-(k : Int))).b] 24))
    clear hb2 c0 c1
    by_cases hlt : k = s
    · subst hlt
      have q : 0 ≤ (turned v (-(k : Int))).b ∧ (turned v (-(k : Int))).b < (turned v (-(k : Int))).a := by have := HH.out.1; simpa [fstB] using this
      obtain ⟨q1, q2⟩ := q
      go_wp2_with fail
      go_ret
      exact ⟨rfl, F2.out.bl⟩
    · have q : ¬ (0 ≤ (turned v (-(k : Int))).b ∧ (turned v (-(k : Int))).b < (turned v (-(k : Int))).a) := by have := hfst.out; simp [fstB, hlt] at this; omega
      by_cases q1 : 0 ≤ (turned v (-(k : Int))).b
      all_goals
        have q2 : (turned v (-(k : Int))).b < 0 ∨ ¬ (turned v (-(k : Int))).b < (turned v (-(k : Int))).a := by omega
        first
          | (have q3 : ¬ (turned v (-(k : Int))).b < (turned v (-(k : Int))).a := by omega
             clear q q2
             go_wp2_with fail
             go_roundw
             case rel => exact ⟨k + 1, by omega, by go_num, F2.out⟩
             case measure => simp [intOf]; omega)
          | (clear q q2
             go_wp2_with fail
             go_roundw
             case rel => exact ⟨k + 1, by omega, by go_num, F2.out⟩
             case measure => simp [intOf]; omega)
end Go.Proofs.YtemjefhfplaibaaDoor
