
/-
  The walks of the nearest state.
-/
import Derived.Test.YtohldmmfnjfgmaaDoorTCon
namespace Go.Proofs.YtohldmmfnjfgmaaDoor
open Go.RowKit

theorem wout_bd {M : Int} {v : T3} {K : Int} (hM : 0 ≤ M ∧ M ≤ 100000) (h : v.Bd K) (s : Nat) : (wout M v s).Bd (K + 100000) := by
  obtain ⟨⟨a0, a1⟩, b0, b1⟩ := wout_in (K := K) hM.1 s ⟨⟨h.a0, h.a1⟩, h.b0, h.b1⟩
  exact ⟨by omega, by omega, by omega, by omega⟩

set_option maxHeartbeats 4000000 in
set_option maxRecDepth 100000 in
theorem nearest_any (M : Int) (hM : 0 ≤ M ∧ M ≤ 100000) (v : T3) (hv : v.Bd 900000000) (w : World) (hT : Tab w) : Calls Tryd.prog 65 #[.int .i64 M, (.agg #[.int .i64 v.a, .int .i64 v.b])] w fun e w' => e = .returned (.int .i64 (nearV M v)) ∧ Below w.heap.size w w' := by
  have HV := Lib.hid (hv.more (K := 1000000000) (by omega))
  have HW := Lib.hid (fun s => (wout_bd hM hv s).more (K := 1000000000) (by omega))
  have HM := Lib.hid hM
  have F0 := Fr.b1 w 24 #[.int .i64 v.a, .int .i64 v.b]
  have HT := Lib.hid hT
  obtain ⟨r, hr⟩ : ∃ r, nearV M v = r := ⟨_, rfl⟩
  have H0 : Hid (nearFrom M v 8 0 0 = r) := Lib.hid hr
  rw [hr]
  clear hv hM hT hr
  go_enter Tryd.func65, Tryd.ntmps65
  go_wp2_with fail
  go_loopw [5, 7] (fun b i wr => ∃ k c : Nat, k ≤ 8 ∧ c < 8 ∧ b = .int .i64 c ∧ i = .int .i64 k ∧ nearFrom M v (8 - k) k c = r ∧ Fr w wr [(w.heap.size, 24, #[.int .i64 v.a, .int .i64 v.b])]) (fun _ i _ => 8 - (intOf i).toNat)
  case atStart => exact ⟨0, 0, by omega, by omega, rfl, rfl, H0.out, F0⟩
  case round =>
    obtain ⟨k, c, hk, hc, rfl, rfl, hn, hf⟩ := hrel
    clear F0 H0
    have HN := Lib.hid hn
    have FK := hf
    clear hn
    have hk8 : (k : Int) ≤ 8 := by omega
    by_cases hlt : k < 8
    · have HS : Hid (nearFrom M v (8 - (k + 1)) (k + 1) (if (wout M v k).nrm < (wout M v c).nrm then k else c) = r) := Lib.hid (by
        have := HN.out
        rw [show 8 - k = (8 - (k + 1)) + 1 from by omega, nearFrom] at this
        exact this)
      have HALL : Hid (∀ W, Fr w W [(w.heap.size, 24, #[.int .i64 v.a, .int .i64 v.b])] → Fr w W [(w.heap.size, 24, #[.int .i64 v.a, .int .i64 v.b])] ∧ W.cell? ⟨w.heap.size, 0, none⟩ = some (.int .i64 v.a) ∧ W.cell? ⟨w.heap.size, 1, none⟩ = some (.int .i64 v.b)) := Lib.hid (fun W hW => ⟨hW, hW.top.cell 0, hW.top.cell 1⟩)
      have HX := Lib.hid (fun (W : World) (hW : Fr w W [(w.heap.size, 24, #[.int .i64 v.a, .int .i64 v.b])]) => without_any M HM.out v HV.out k hlt W (HT.out.below hW.bl HT.out.lt))
      have HY := Lib.hid (fun (W : World) (hW : Fr w W [(w.heap.size, 24, #[.int .i64 v.a, .int .i64 v.b])]) => without_any M HM.out v HV.out c hc W (HT.out.below hW.bl HT.out.lt))
      have SX := Lib.hid (fun W => square_any (wout M v k) (HW.out k) W)
      have SY := Lib.hid (fun W => square_any (wout M v c) (HW.out c) W)
      generalize (wout M v k).nrm = p at *
      generalize (wout M v c).nrm = q at *
      by_cases hpq : p < q
      all_goals
        go_wp2_with fail
        go_region_held3 (fun W => Fr w W [(w.heap.size, 24, #[.int .i64 v.a, .int .i64 v.b])] ∧ W.cell? ⟨w.heap.size, 0, none⟩ = some (.int .i64 v.a) ∧ W.cell? ⟨w.heap.size, 1, none⟩ = some (.int .i64 v.b))
          ((go_split_ands; refine HALL.out _ ?_; (first | assumption | (repeat (first | assumption | refine Fr.new ?_ _ | refine Fr.drew ?_ | (refine Fr.set ?_ (by first | exact Nat.le_refl _ | omega | (simp; done) | (simp; omega)) (by first | (simp; done) | (simp; omega)) _))); done)))
          ((first
            | (go_at_call 70; go_split_ands; (with_reducible refine (HX.out _ (by assumption)).mono ?_); rintro e w1 ⟨rfl, hb1⟩; have F4 := Fr.call (by assumption) hb1; clear hb1)
            | (go_at_call 70; go_split_ands; (with_reducible refine (HY.out _ (by assumption)).mono ?_); rintro e w1 ⟨rfl, hb1⟩; have F4 := Fr.call (by assumption) hb1; clear hb1)
            | (go_at_call 84; go_split_ands; (with_reducible refine (SX.out _).mono ?_); rintro e w1 ⟨rfl, hb1⟩; have F4 := Fr.call (by assumption) hb1; clear hb1)
            | (go_at_call 84; go_split_ands; (with_reducible refine (SY.out _).mono ?_); rintro e w1 ⟨rfl, hb1⟩; have F4 := Fr.call (by assumption) hb1; clear hb1)
            | fail "arm"))
        all_goals
          go_split_ands
          go_wp2_with fail
          go_roundw
          case rel => first | exact ⟨k + 1, k, by omega, by omega, rfl, by go_num, (by have := HS.out; rwa [if_pos (by assumption)] at this), by assumption⟩ | exact ⟨k + 1, c, by omega, by omega, rfl, by go_num, (by have := HS.out; rwa [if_neg (by omega)] at this), by assumption⟩
          case measure => simp [intOf]; omega
    · obtain rfl : k = 8 := by omega
      go_wp2_with fail
      go_ret
      exact ⟨ret_i64 (by have := HN.out; simp only [Nat.sub_self, nearFrom] at this; rw [this]), FK.bl⟩
end Go.Proofs.YtohldmmfnjfgmaaDoor
