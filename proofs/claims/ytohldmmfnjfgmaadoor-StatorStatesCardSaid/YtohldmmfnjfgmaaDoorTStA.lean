
/-
  The walks of the reference's functions of states.
-/
import Derived.Test.YtohldmmfnjfgmaaDoorTIsN
import Derived.Test.YtohldmmfnjfgmaaDoorTRsW
namespace Go.Proofs.YtohldmmfnjfgmaaDoor
open Go.RowKit

theorem st_num (n : Int) (s : Nat) (hn : n = (s : Int)) (hs : s < 8) : (T3.mk (n / 4 - n % 2) (n / 2 % 2 - n % 2)) = stV s := by
  subst hn
  rcases (by omega : s = 0 ∨ s = 1 ∨ s = 2 ∨ s = 3 ∨ s = 4 ∨ s = 5 ∨ s = 6 ∨ s = 7) with rfl | rfl | rfl | rfl | rfl | rfl | rfl | rfl <;> rfl
set_option maxHeartbeats 800000 in
theorem refStateVector_any (n : Int) (s : Nat) (hn : n = (s : Int)) (hs : s < 8) (w : World) : Calls Tryd.prog 22 #[.int .i64 n] w fun e w' => e = .returned (.agg #[.int .i64 (stV s).a, .int .i64 (stV s).b]) ∧ Below w.heap.size w w' := by
  have HE := Lib.hid (st_num n s hn hs)
  have n0 : 0 ≤ n := by omega
  have n1 : n ≤ 7 := by omega
  have F0 := Lib.hid (Fr.b1 w 24 #[.int .i64 0, .int .i64 0])
  have HR := Lib.hid (refVectorOf_any (n / 4) (n / 2 % 2) (n % 2) (by omega) (by omega) (by omega))
  clear hn hs
  go_enter Tryd.func22, Tryd.ntmps22
  go_wp2_with fail
  refine (HR.out _).mono ?_
  rintro e w1 ⟨rfl, hb1⟩
  have F1 := Lib.hid (F0.out.call hb1)
  obtain ⟨c0, c1, c2, c3⟩ := F1.out.top.two
  clear hb1 F0
  go_wp2_with fail
  refine bodyPost_ret (v := .agg #[.int .i64 (n / 4 - n % 2), .int .i64 (n / 2 % 2 - n % 2)]) (by simp [results, Tryd.results22, go_sem, c0, c1]) rfl ⟨?_, (by repeat (first | exact F1.out.bl | refine Below.drew ?_ | refine Below.setCell ?_ (by first | (simp; done) | (simp; omega) | omega) _ | refine Below.alloc ?_ (by first | (simp; done) | (simp; omega) | omega) _ | exact Below.refl _ _))⟩
  rw [← HE.out]
set_option maxHeartbeats 1600000 in
theorem rest_any (M : Int) (hM : 0 ≤ M ∧ M ≤ 100000) (v : T3) (hv : v.Bd 1000000000) (n : Int) (s : Nat) (hn : n = (s : Int)) (hs : s < 8) (w : World) : Calls Tryd.prog 66 #[.int .i64 M, (.agg #[.int .i64 v.a, .int .i64 v.b]), .int .i64 n] w fun e w' => e = .returned (.agg #[.int .i64 (wout M v s).a, .int .i64 (wout M v s).b]) ∧ Below w.heap.size w w' := by
  have F0 := Lib.hid (Fr.b2 w 24 #[.int .i64 v.a, .int .i64 v.b] 24 #[.int .i64 0, .int .i64 0])
  have HS := Lib.hid (refStateVector_any n s hn hs)
  obtain ⟨⟨a0, a1⟩, b0, b1⟩ := stV_in s
  have p := scl_in hM.1 a0 a1
  have q := scl_in hM.1 b0 b1
  have HT := Lib.hid (TSub_any v ⟨M * (stV s).a, M * (stV s).b⟩ (hv.more (by omega)) ⟨by simp only; omega, by simp only; omega, by simp only; omega, by simp only; omega⟩)
  have W1 : Hid (IntKind.i64.wrap (M * (stV s).a) = M * (stV s).a) := Lib.hid (IntWalk.i64_in _ ⟨by omega, by omega⟩)
  have W2 : Hid (IntKind.i64.wrap (M * (stV s).b) = M * (stV s).b) := Lib.hid (IntWalk.i64_in _ ⟨by omega, by omega⟩)
  clear hM hv hn hs a0 a1 b0 b1 p q
  go_enter Tryd.func66, Tryd.ntmps66
  go_wp2_with fail
  refine (HS.out _).mono ?_
  rintro e w1 ⟨rfl, hb1⟩
  have F1 := Lib.hid ((F0.out.call hb1).box 24 #[.int .i64 (stV s).a, .int .i64 (stV s).b])
  obtain ⟨c0, c1, _, _⟩ := (F0.out.call hb1).at1.two
  have z1 := (F0.out.call hb1).top.lt
  have z0 := (F0.out.call hb1).at1.lt
  clear hb1 F0
  have w1 := W1.out
  have w2 := W2.out
  go_wp2_with fail
  refine (HT.out _).mono ?_
  rintro e w3 ⟨rfl, hb3⟩
  have F3 := Lib.hid (F1.out.call hb3)
  clear hb3 F1 c0 c1 w1 w2 z1 z0
  obtain ⟨c0, c1, c2, c3⟩ := F3.out.at1.two
  go_wp2_with fail
  exact bodyPost_ret (v := (.agg #[.int .i64 (T3.sub v ⟨M * (stV s).a, M * (stV s).b⟩).a, .int .i64 (T3.sub v ⟨M * (stV s).a, M * (stV s).b⟩).b])) (by simp [results, Tryd.results66, go_sem, c0, c1]) rfl ⟨rfl, (by repeat (first | exact F3.out.bl | refine Below.drew ?_ | refine Below.setCell ?_ (by first | (simp; done) | (simp; omega) | omega) _ | refine Below.alloc ?_ (by first | (simp; done) | (simp; omega) | omega) _ | exact Below.refl _ _))⟩

set_option maxHeartbeats 4000000 in
set_option maxRecDepth 100000 in
theorem refNearest_any (M : Int) (hM : 0 ≤ M ∧ M ≤ 100000) (v : T3) (hv : v.Bd 900000000) (w : World) : Calls Tryd.prog 28 #[.int .i64 M, (.agg #[.int .i64 v.a, .int .i64 v.b])] w fun e w' => e = .returned (.int .i64 (nearV M v)) ∧ Below w.heap.size w w' := by
  have HV := Lib.hid (hv.more (K := 1000000000) (by omega))
  have HW := Lib.hid (fun s => (wout_bd hM hv s).more (K := 1000000000) (by omega))
  have HM := Lib.hid hM
  have F0 := Fr.b1 w 24 #[.int .i64 v.a, .int .i64 v.b]
  obtain ⟨r, hr⟩ : ∃ r, nearV M v = r := ⟨_, rfl⟩
  have H0 : Hid (nearFrom M v 7 1 0 = r) := Lib.hid (by rw [← near_one]; exact hr)
  rw [hr]
  clear hv hM hr
  go_enter Tryd.func28, Tryd.ntmps28
  go_wp2_with fail
  go_loopw [5, 6] (fun b i wr => ∃ k c : Nat, 1 ≤ k ∧ k ≤ 8 ∧ c < 8 ∧ b = .int .i64 c ∧ i = .int .i64 k ∧ nearFrom M v (8 - k) k c = r ∧ Fr w wr [(w.heap.size, 24, #[.int .i64 v.a, .int .i64 v.b])]) (fun _ i _ => 8 - (intOf i).toNat)
  case atStart => exact ⟨1, 0, by omega, by omega, by omega, rfl, rfl, H0.out, F0⟩
  case round =>
    obtain ⟨k, c, hk1, hk, hc, rfl, rfl, hn, hf⟩ := hrel
    clear F0 H0
    have HN := Lib.hid hn
    have FK := hf
    clear hn
    have hk8 : (k : Int) ≤ 8 := by omega
    by_cases hlt : k < 8
    · have HS : Hid (nearFrom M v (8 - (k + 1)) (k + 1) (if (wout M v k).nrm < (wout M v c).nrm then k else c) = r) := Lib.hid (by
        have := HN.out
        rw [show 8 - k = (8 - (k + 1)) + 1 from by omega, nearFrom] at this
        exact this)
      have HALL : Hid (∀ W, Fr w W [(w.heap.size, 24, #[.int .i64 v.a, .int .i64 v.b])] → Fr w W [(w.heap.size, 24, #[.int .i64 v.a, .int .i64 v.b])] ∧ W.cell? ⟨w.heap.size, 0, none⟩ = some (.int .i64 v.a) ∧ W.cell? ⟨w.heap.size, 1, none⟩ = some (.int .i64 v.b)) := Lib.hid (fun W hW => ⟨hW, hW.top.cell 0, hW.top.cell 1⟩)
      have HX := Lib.hid (fun (W : World) => rest_any M HM.out v HV.out (k : Int) k rfl hlt W)
      have HY := Lib.hid (fun (W : World) => rest_any M HM.out v HV.out (c : Int) c rfl hc W)
      have SX := Lib.hid (fun W => TNorm_any (wout M v k) (HW.out k) W)
      have SY := Lib.hid (fun W => TNorm_any (wout M v c) (HW.out c) W)
      generalize (wout M v k).nrm = p at *
      generalize (wout M v c).nrm = q at *
      by_cases hpq : p < q
      all_goals
        go_wp2_with fail
        go_region_held3 (fun W => Fr w W [(w.heap.size, 24, #[.int .i64 v.a, .int .i64 v.b])] ∧ W.cell? ⟨w.heap.size, 0, none⟩ = some (.int .i64 v.a) ∧ W.cell? ⟨w.heap.size, 1, none⟩ = some (.int .i64 v.b))
          ((go_split_ands; refine HALL.out _ ?_; (first | assumption | (repeat (first | assumption | refine Fr.new ?_ _ | refine Fr.drew ?_ | (refine Fr.set ?_ (by first | exact Nat.le_refl _ | omega | (simp; done) | (simp; omega)) (by first | (simp; done) | (simp; omega)) _))); done)))
          ((first
            | (go_at_call 66; go_split_ands; (with_reducible refine (HX.out _).mono ?_); rintro e w1 ⟨rfl, hb1⟩; have F4 := Fr.call (by assumption) hb1; clear hb1)
            | (go_at_call 66; go_split_ands; (with_reducible refine (HY.out _).mono ?_); rintro e w1 ⟨rfl, hb1⟩; have F4 := Fr.call (by assumption) hb1; clear hb1)
            | (go_at_call 19; go_split_ands; (with_reducible refine (SX.out _).mono ?_); rintro e w1 ⟨rfl, hb1⟩; have F4 := Fr.call (by assumption) hb1; clear hb1)
            | (go_at_call 19; go_split_ands; (with_reducible refine (SY.out _).mono ?_); rintro e w1 ⟨rfl, hb1⟩; have F4 := Fr.call (by assumption) hb1; clear hb1)
            | fail "arm"))
        all_goals
          go_split_ands
          go_wp2_with fail
          go_roundw
          case rel => first | exact ⟨k + 1, k, by omega, by omega, by omega, rfl, by go_num, (by have := HS.out; rwa [if_pos (by assumption)] at this), by assumption⟩ | exact ⟨k + 1, c, by omega, by omega, by omega, rfl, by go_num, (by have := HS.out; rwa [if_neg (by omega)] at this), by assumption⟩
          case measure => simp [intOf]; omega
    · obtain rfl : k = 8 := by omega
      go_wp2_with fail
      go_ret
      exact ⟨ret_i64 (by have := HN.out; simp only [Nat.sub_self, nearFrom] at this; rw [this]), FK.bl⟩

set_option maxHeartbeats 800000 in
theorem IsState_any (n : Int) (w : World) : Calls Tryd.prog 21 #[.int .i64 n] w fun e w' => e = .returned (.bool (inB n 0 7)) ∧ w = w' := by
  go_enter Tryd.func21, Tryd.ntmps21
  go_wp2_with (go_at_call 18; refine (Within_any _ _ _ _).mono ?_; rintro e w' ⟨rfl, rfl⟩)
  go_ret
  exact ⟨rfl, rfl⟩
end Go.Proofs.YtohldmmfnjfgmaaDoor
