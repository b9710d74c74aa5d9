
/-
  The walks of the reference's checks of tracks and trains.
-/
import Derived.Test.YtemjefhfplaibaaDoorTEven
import Derived.Test.YtemjefhfplaibaaDoorTOv
namespace Go.Proofs.YtemjefhfplaibaaDoor
open Go.RowKit

set_option maxHeartbeats 800000 in
theorem sections_any (A : Option Addr) (n c : Nat) (w : World) : Calls Tryd.prog 28 #[.agg #[.slice A n c]] w fun e w' => e = .returned (.bool (decide ((n : Int) ≤ 14))) ∧ Below w.heap.size w w' := by
  have F0 := Lib.hid (Fr.b1 w 49 #[.slice A n c])
  by_cases h : (n : Int) ≤ 14
  all_goals
    go_enter Tryd.func28, Tryd.ntmps28
    go_wp2_with fail
    go_ret
    exact ⟨ret_bool (by simp [h]), F0.out.bl⟩

set_option maxHeartbeats 2000000 in
theorem refCheckTrack_any (ls : List Int) (A : Option Addr) (c : Nat) (hl : ls.length ≤ 1000) (w : World) (hA : Lies w w.heap.size A (ic ls)) :
    Calls Tryd.prog 32 #[.agg #[.slice A ls.length c]] w fun e w' => e = .returned (.tuple #[.int .i64 (trkE ls).1, .int .i64 (trkE ls).2]) ∧ Below w.heap.size w w' := by
  have B0 := Lib.hid (box1 w #[.slice A ls.length c] 49)
  have HA := Lib.hid (Lies.new hA (.cells #[.slice A ls.length c] 49))
  clear hA
  by_cases h0 : ls.length = 0
  · have he : Hid (trkE ls = (0, 10)) := Lib.hid (by unfold trkE; rw [if_pos h0])
    have h0' : ((ls.length : Int) == 0) = true := by simp [h0]
    have H0 := Lib.hid h0
    rw [he.out]
    clear h0
    go_enter Tryd.func32, Tryd.ntmps32
    go_wp2_with fail
    go_ret2
    exact ⟨rfl, B0.out⟩
  by_cases h1 : 12 < ls.length
  · have he : Hid (trkE ls = (0, 8)) := Lib.hid (by unfold trkE; rw [if_neg h0, if_pos h1])
    have h0' : ((ls.length : Int) == 0) = false := by simp only [beq_eq_false_iff_ne, ne_eq]; omega
    have h1' : (12 : Int) < ls.length := by omega
    rw [he.out]
    clear h0 h1
    go_enter Tryd.func32, Tryd.ntmps32
    go_wp2_with fail
    go_ret2
    exact ⟨rfl, B0.out⟩
  have h0' : ((ls.length : Int) == 0) = false := by simp only [beq_eq_false_iff_ne, ne_eq]; omega
  have h1' : ¬ (12 : Int) < ls.length := by omega
  have H0 := Lib.hid h0
  have H1 := Lib.hid h1
  clear h0 h1
  go_enter Tryd.func32, Tryd.ntmps32
  go_wp2_with fail
  go_loop [4] (fun i => ∃ k : Nat, k ≤ ls.length ∧ i = .int .i64 k ∧ ∀ j (hj : j < k) (hj' : j < ls.length), inB ls[j] 1 1000000 = true) (fun i => ls.length - (intOf i).toNat)
  case atStart => exact ⟨0, Nat.zero_le _, rfl, fun j hj => by omega⟩
  case round =>
    obtain ⟨k, hk, rfl, hp⟩ := hrel
    have HP := Lib.hid hp
    clear hp
    by_cases hlt : k < ls.length
    · obtain ⟨a, rfl, _, ca⟩ := HA.out.num (List.getElem?_eq_getElem hlt)
      cases hx : inB ls[k] 1 1000000 with
      | true =>
        have HX := Lib.hid hx
        go_wp2_with (go_at_call 23; refine (Within_any _ _ _ _).mono ?_; rintro e w' ⟨rfl, rfl⟩; rw [HX.out])
        go_round
        case rel => exact ⟨k + 1, by omega, by go_num, fun j hj hj' => by
          by_cases e : j = k
          · subst e; exact HX.out
          · exact HP.out j (by omega) hj'⟩
        case measure => simp [intOf]; omega
      | false =>
        have HX := Lib.hid hx
        have he := Lib.hid (trkE_at (ls := ls) (by have := H1.out; omega) k hlt (fun j hj => HP.out j hj (by omega)) hx)
        clear hx
        go_wp2_with (go_at_call 23; refine (Within_any _ _ _ _).mono ?_; rintro e w' ⟨rfl, rfl⟩; rw [HX.out])
        go_ret2
        exact ⟨by rw [he.out] <;> rfl, B0.out⟩
    · obtain rfl : k = ls.length := by omega
      have he := Lib.hid (trkE_ok (ls := ls) H0.out (by have := H1.out; omega) (fun x hx => by obtain ⟨i, hi, rfl⟩ := List.getElem_of_mem hx; exact HP.out i hi hi))
      go_wp2_with fail
      go_ret2
      exact ⟨by rw [he.out] <;> rfl, B0.out⟩

set_option maxHeartbeats 2000000 in
theorem TrackErr_any (ls : List Int) (A : Option Addr) (c : Nat) (hl : ls.length ≤ 1000) (w : World) (hA : Lies w w.heap.size A (ic ls)) :
    Calls Tryd.prog 39 #[.agg #[.slice A ls.length c]] w fun e w' => e = .returned (.int .i64 (trkE ls).2) ∧ Below w.heap.size w w' := by
  have HA := Lib.hid hA
  have F0 := Lib.hid (Fr.b1 w 49 #[.slice A ls.length c])
  clear hA
  go_enter Tryd.func39, Tryd.ntmps39
  go_wp2_with fail
  refine (refCheckTrack_any ls A c hl _ (Fr.lies HA.out F0.out)).mono ?_
  rintro e w1 ⟨rfl, hb1⟩
  have F1 := Lib.hid (F0.out.call hb1)
  go_wp2_with fail
  go_ret
  exact ⟨rfl, F1.out.bl⟩

set_option maxHeartbeats 2000000 in
theorem All_any (ls : List Int) (A : Option Addr) (c : Nat) (h1 : ls.length ≤ 12) (hx : ∀ x ∈ ls, inB x 1 1000000 = true) (w : World) (hA : Lies w w.heap.size A (ic ls)) :
    Calls Tryd.prog 83 #[.agg #[.slice A ls.length c]] w fun e w' => e = .returned (.int .i64 (begV ls ls.length)) ∧ Below w.heap.size w w' := by
  have F0 := Lib.hid (Fr.b1 w 49 #[.slice A ls.length c])
  have HA1 := Lib.hid (Fr.lies hA F0.out)
  have HX := Lib.hid hx
  have hl : (ls.length : Int) ≤ 12 := by omega
  clear hA hx
  obtain ⟨c0, c1⟩ := F0.out.top.one
  go_enter Tryd.func83, Tryd.ntmps83
  go_wp2_with fail
  go_loop [3, 4] (fun s i => ∃ k : Nat, k ≤ ls.length ∧ i = .int .i64 k ∧ s = .int .i64 (begV ls k)) (fun _ i => ls.length - (intOf i).toNat)
  case atStart => exact ⟨0, Nat.zero_le _, rfl, rfl⟩
  case round =>
    obtain ⟨k, hk, rfl, rfl⟩ := hrel
    obtain ⟨b0, b1⟩ := begV_bound HX.out k (by omega)
    by_cases hlt : k < ls.length
    · obtain ⟨a, rfl, _, ca⟩ := HA1.out.num (List.getElem?_eq_getElem hlt)
      have hs := Lib.hid (begV_succ ls k hlt)
      obtain ⟨y0, y1⟩ := inB_iff.1 (HX.out _ (List.getElem_mem hlt))
      go_wp2_with fail
      go_round
      case rel => exact ⟨k + 1, by omega, by go_num, by rw [hs.out]⟩
      case measure => simp [intOf]; omega
    · obtain rfl : k = ls.length := by omega
      go_wp2_with fail
      go_ret
      exact ⟨rfl, F0.out.bl⟩

/-- The error of a train on a right track. -/
def trnE (ls : List Int) (p len : Int) : Int := if inB len 1 1000000 = false ∨ p < 0 then 2 else if p ≤ begV ls ls.length - len then 0 else 23
theorem plc_trn {ls : List Int} (h : (trkE ls).2 = 0) (p len : Int) : plcE ls p len = trnE ls p len := by unfold plcE trnE; rw [if_neg (by rw [h]; simp)]
theorem plc_trk {ls : List Int} (h : (trkE ls).2 ≠ 0) (p len : Int) : plcE ls p len = (trkE ls).2 := by unfold plcE; rw [if_pos h]
set_option maxHeartbeats 2000000 in
theorem TrainErr_any (ls : List Int) (A : Option Addr) (c : Nat) (h1 : ls.length ≤ 12) (hx : ∀ x ∈ ls, inB x 1 1000000 = true) (p len : Int) (w : World) (hA : Lies w w.heap.size A (ic ls)) :
    Calls Tryd.prog 33 #[.agg #[.slice A ls.length c], .agg #[.int .i64 p, .int .i64 len]] w fun e w' => e = .returned (.int .i64 (trnE ls p len)) ∧ Below w.heap.size w w' := by
  have F0 := Lib.hid (Fr.b2 w 49 #[.slice A ls.length c] 51 #[.int .i64 p, .int .i64 len])
  have HA := Lib.hid hA
  have HX := Lib.hid hx
  clear hA hx
  cases hw : inB len 1 1000000 with
  | false =>
    have HW := Lib.hid hw
    have HE : Hid (trnE ls p len = 2) := Lib.hid (by unfold trnE; rw [if_pos (Or.inl hw)])
    clear hw
    go_enter Tryd.func33, Tryd.ntmps33
    go_wp2_with (go_at_call 23; refine (Within_any _ _ _ _).mono ?_; rintro e w' ⟨rfl, rfl⟩; rw [HW.out])
    go_ret
    exact ⟨ret_i64 HE.out.symm, F0.out.bl⟩
  | true =>
    have HW := Lib.hid hw
    obtain ⟨l0, l1⟩ := inB_iff.1 hw
    by_cases hp0 : p < 0
    · have HE : Hid (trnE ls p len = 2) := Lib.hid (by unfold trnE; rw [if_pos (Or.inr hp0)])
      clear hw
      go_enter Tryd.func33, Tryd.ntmps33
      go_wp2_with (go_at_call 23; refine (Within_any _ _ _ _).mono ?_; rintro e w' ⟨rfl, rfl⟩; rw [HW.out])
      go_ret
      exact ⟨ret_i64 HE.out.symm, F0.out.bl⟩
    · obtain ⟨b0, b1⟩ := begV_bound HX.out ls.length (by omega)
      have hsub := IntWalk.i64_in (begV ls ls.length - len) (by omega)
      obtain ⟨c0, c1⟩ := F0.out.at1.one
      obtain ⟨d0, d1, _, _⟩ := F0.out.top.two
      by_cases hq : p ≤ begV ls ls.length - len
      · have HE : Hid (trnE ls p len = 0) := Lib.hid (by unfold trnE; rw [if_neg (by rw [hw]; simp; omega), if_pos hq])
        clear hw
        go_enter Tryd.func33, Tryd.ntmps33
        go_upto_region 3 with (go_at_call 23; refine (Within_any _ _ _ _).mono ?_; rintro e w' ⟨rfl, rfl⟩; rw [HW.out])
        go_cut [21] from 14 to 21 (fun r W => r = .bool false ∧ Fr w W [(w.heap.size + 1, 51, #[.int .i64 p, .int .i64 len]), (w.heap.size, 49, #[.slice A ls.length c])])
        case first =>
          have HALL : Hid (∀ W, Fr w W [(w.heap.size + 1, 51, #[.int .i64 p, .int .i64 len]), (w.heap.size, 49, #[.slice A ls.length c])] → Fr w W [(w.heap.size + 1, 51, #[.int .i64 p, .int .i64 len]), (w.heap.size, 49, #[.slice A ls.length c])] ∧ W.cell? ⟨w.heap.size + 1, 0, none⟩ = some (.int .i64 p) ∧ W.cell? ⟨w.heap.size + 1, 1, none⟩ = some (.int .i64 len) ∧ W.cell? ⟨w.heap.size, 0, none⟩ = some (.slice A ls.length c)) := Lib.hid (fun W hW => ⟨hW, hW.top.cell 0, hW.top.cell 1, hW.at1.cell 0⟩)
          have F10 : Fr w _ [(w.heap.size + 1, 51, #[.int .i64 p, .int .i64 len]), (w.heap.size, 49, #[.slice A ls.length c])] := F0.out
          clear F0
          go_region_held3 (fun W => Fr w W [(w.heap.size + 1, 51, #[.int .i64 p, .int .i64 len]), (w.heap.size, 49, #[.slice A ls.length c])] ∧ W.cell? ⟨w.heap.size + 1, 0, none⟩ = some (.int .i64 p) ∧ W.cell? ⟨w.heap.size + 1, 1, none⟩ = some (.int .i64 len) ∧ W.cell? ⟨w.heap.size, 0, none⟩ = some (.slice A ls.length c))
            ((go_split_ands; refine HALL.out _ ?_; (first | assumption | (repeat (first | assumption | refine Fr.new ?_ _ | refine Fr.drew ?_ | (refine Fr.set ?_ (by first | exact Nat.le_refl _ | omega | (simp; done) | (simp; omega)) (by first | (simp; done) | (simp; omega)) _))); done)))
            ((first
              | (go_at_call 83; go_split_ands; (with_reducible refine (All_any ls A c h1 HX.out _ (Fr.lies HA.out (by assumption))).mono ?_); rintro e w1 ⟨rfl, hb1⟩; have F4 := Fr.call (by assumption) hb1; clear hb1)
              | fail "arm"))
          all_goals
            go_split_ands
            go_wp2_with fail
            go_meet
            exact ⟨by first | rfl | exact congrArg Value.bool (decide_eq_false (by omega)) | exact congrArg Value.bool (decide_eq_true (by omega)), by assumption⟩
        case rest =>
          obtain ⟨wx, rfl⟩ : ∃ W, W = wc := ⟨_, rfl⟩
          obtain ⟨rfl, hx⟩ := hcut
          have FC := Lib.hid hx
          clear hx F0 c0 c1 d0 d1
          go_wp2_with fail
          go_ret
          exact ⟨ret_i64 HE.out.symm, FC.out.bl⟩
      · have HE : Hid (trnE ls p len = 23) := Lib.hid (by unfold trnE; rw [if_neg (by rw [hw]; simp; omega), if_neg hq])
        clear hw
        go_enter Tryd.func33, Tryd.ntmps33
        go_upto_region 3 with (go_at_call 23; refine (Within_any _ _ _ _).mono ?_; rintro e w' ⟨rfl, rfl⟩; rw [HW.out])
        go_cut [21] from 14 to 21 (fun r W => r = .bool true ∧ Fr w W [(w.heap.size + 1, 51, #[.int .i64 p, .int .i64 len]), (w.heap.size, 49, #[.slice A ls.length c])])
        case first =>
          have HALL : Hid (∀ W, Fr w W [(w.heap.size + 1, 51, #[.int .i64 p, .int .i64 len]), (w.heap.size, 49, #[.slice A ls.length c])] → Fr w W [(w.heap.size + 1, 51, #[.int .i64 p, .int .i64 len]), (w.heap.size, 49, #[.slice A ls.length c])] ∧ W.cell? ⟨w.heap.size + 1, 0, none⟩ = some (.int .i64 p) ∧ W.cell? ⟨w.heap.size + 1, 1, none⟩ = some (.int .i64 len) ∧ W.cell? ⟨w.heap.size, 0, none⟩ = some (.slice A ls.length c)) := Lib.hid (fun W hW => ⟨hW, hW.top.cell 0, hW.top.cell 1, hW.at1.cell 0⟩)
          have F10 : Fr w _ [(w.heap.size + 1, 51, #[.int .i64 p, .int .i64 len]), (w.heap.size, 49, #[.slice A ls.length c])] := F0.out
          clear F0
          go_region_held3 (fun W => Fr w W [(w.heap.size + 1, 51, #[.int .i64 p, .int .i64 len]), (w.heap.size, 49, #[.slice A ls.length c])] ∧ W.cell? ⟨w.heap.size + 1, 0, none⟩ = some (.int .i64 p) ∧ W.cell? ⟨w.heap.size + 1, 1, none⟩ = some (.int .i64 len) ∧ W.cell? ⟨w.heap.size, 0, none⟩ = some (.slice A ls.length c))
            ((go_split_ands; refine HALL.out _ ?_; (first | assumption | (repeat (first | assumption | refine Fr.new ?_ _ | refine Fr.drew ?_ | (refine Fr.set ?_ (by first | exact Nat.le_refl _ | omega | (simp; done) | (simp; omega)) (by first | (simp; done) | (simp; omega)) _))); done)))
            ((first
              | (go_at_call 83; go_split_ands; (with_reducible refine (All_any ls A c h1 HX.out _ (Fr.lies HA.out (by assumption))).mono ?_); rintro e w1 ⟨rfl, hb1⟩; have F4 := Fr.call (by assumption) hb1; clear hb1)
              | fail "arm"))
          all_goals
            go_split_ands
            go_wp2_with fail
            go_meet
            exact ⟨by first | rfl | exact congrArg Value.bool (decide_eq_false (by omega)) | exact congrArg Value.bool (decide_eq_true (by omega)), by assumption⟩
        case rest =>
          obtain ⟨wx, rfl⟩ : ∃ W, W = wc := ⟨_, rfl⟩
          obtain ⟨rfl, hx⟩ := hcut
          have FC := Lib.hid hx
          clear hx F0 c0 c1 d0 d1
          go_wp2_with fail
          go_ret
          exact ⟨ret_i64 HE.out.symm, FC.out.bl⟩
end Go.Proofs.YtemjefhfplaibaaDoor
