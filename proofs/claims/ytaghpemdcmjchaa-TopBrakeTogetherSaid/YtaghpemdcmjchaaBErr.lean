
/-
  The errors of stops, posts, states and squares, the program's and the reference's.
-/
import Derived.Test.YtaghpemdcmjchaaBTr
namespace Go.Proofs.Ytaghpemdcmjchaa
open Go.RowKit

/-- The error of a stop of a track. -/
def stopE (ps : List Bp) (stop : Int) : Int := if inB stop 0 ((ps.length : Int) - 1) = false then 6 else if (gp ps stop.toNat).lv = false then 15 else 0
theorem stopE_ok {ps : List Bp} {stop : Int} (h : stopE ps stop = 0) : ∃ k : Nat, stop = k ∧ k < ps.length ∧ (gp ps k).lv = true := by
  unfold stopE at h
  cases h1 : inB stop 0 ((ps.length : Int) - 1) with
  | false => rw [h1] at h; simp at h
  | true =>
    have := inB_iff.1 h1
    cases h2 : (gp ps stop.toNat).lv with
    | false => rw [h1, h2] at h; simp at h
    | true => exact ⟨stop.toNat, by omega, by omega, h2⟩
theorem stopE_far {ps : List Bp} {stop : Int} (h : inB stop 0 ((ps.length : Int) - 1) = false) : stopE ps stop = 6 := by unfold stopE; rw [if_pos h]
theorem stopE_in {ps : List Bp} {k : Nat} (h : k < ps.length) : stopE ps (k : Int) = if (gp ps k).lv = false then 15 else 0 := by
  unfold stopE
  rw [if_neg (by rw [inB_iff.2 (by omega)]; simp), Int.toNat_natCast]
/-- The error of a post. -/
def postE (ps : List Bp) (p : Int) : Int := if inB p 0 ps.length = true then 0 else 6
/-- The error of a state. -/
def stateE (ps : List Bp) (p sq : Int) : Int := if inB p 0 ps.length = false then 6 else if inB sq 0 20000000000 = true then 0 else 2
theorem stateE_ok {ps : List Bp} {p sq : Int} (h : stateE ps p sq = 0) : ∃ k : Nat, p = k ∧ k ≤ ps.length ∧ 0 ≤ sq ∧ sq ≤ 20000000000 := by
  unfold stateE at h
  cases h1 : inB p 0 ps.length with
  | false => rw [h1] at h; simp at h
  | true =>
    have := inB_iff.1 h1
    cases h2 : inB sq 0 20000000000 with
    | false => rw [h1, h2] at h; simp at h
    | true => have := inB_iff.1 h2; exact ⟨p.toNat, by omega, by omega, by omega, by omega⟩
def orderE (p stop : Int) : Int := if stop < p then 9 else 0
/-- The error of squares. -/
def sqE (l : List Int) : Int := if l.all (fun x => inB x 0 20000000000) = true then 0 else 2
theorem sqE_yes {l : List Int} (h : ∀ x ∈ l, inB x 0 20000000000 = true) : sqE l = 0 := by unfold sqE; rw [if_pos (List.all_eq_true.2 h)]
theorem sqE_no {l : List Int} {x : Int} (hx : x ∈ l) (h : inB x 0 20000000000 = false) : sqE l = 2 := by
  unfold sqE; rw [if_neg]
  intro ha
  rw [List.all_eq_true.1 ha x hx] at h
  cases h
theorem sqE_one (x : Int) : sqE [x] = if inB x 0 20000000000 = true then 0 else 2 := by unfold sqE; simp

theorem own_oneE {w : World} {base : Nat} {e : TypeId} {x : Value} (hb : base ≤ w.heap.size) : (w.alloc (.cells #[x] e)).ownsRow base e 1 (.slice (some ⟨w.heap.size, 0, none⟩) 1 1) 1 [x] :=
  ⟨by simp, .inr ⟨w.heap.size, 1, #[x], rfl, hb, heap_alloc_new w _, Nat.le_refl _, by unfold maxLen; omega, by simp, by simp⟩⟩
set_option maxHeartbeats 1000000 in
theorem errorOfSquare_any (l : List Int) (A : Option Addr) (c : Nat) (hl : l.length ≤ maxLen) (w : World) (hA : Lies w w.heap.size A (ic l)) :
    Calls Try.prog 40 #[.slice A l.length c] w fun e w' => e = .returned (.int .i64 (sqE l)) ∧ w = w' := by
  unfold maxLen at hl
  have HA := Lib.hid hA
  clear hA
  go_enter Try.func40, Try.ntmps40
  go_wp2_with fail
  go_loop [7] (fun i => ∃ k : Nat, k ≤ l.length ∧ i = .int .i64 k ∧ ∀ x ∈ l.take k, inB x 0 20000000000 = true) (fun i => l.length - (intOf i).toNat)
  case atStart => exact ⟨0, Nat.zero_le _, rfl, by simp⟩
  case round =>
    obtain ⟨k, hk, rfl, hp⟩ := hrel
    have HP := Lib.hid hp
    clear hp
    by_cases hlt : k < l.length
    · obtain ⟨a, rfl, _, ca⟩ := HA.out.num (List.getElem?_eq_getElem hlt)
      cases hx : inB l[k] 0 20000000000 with
      | true =>
        have HX := Lib.hid hx
        clear hx
        go_wp2_with (go_at_call 45; refine (isSquare_any _ _).mono ?_; rintro e w' ⟨rfl, rfl⟩; rw [HX.out])
        go_round
        case rel => exact ⟨k + 1, by omega, by go_num, fun x hx => by
          rw [List.take_succ_eq_append_getElem hlt] at hx
          rcases List.mem_append.1 hx with h | h
          · exact HP.out x h
          · rw [List.mem_singleton.1 h]; exact HX.out⟩
        case measure => simp [intOf]; omega
      | false =>
        have HX := Lib.hid hx
        clear hx
        go_wp2_with (go_at_call 45; refine (isSquare_any _ _).mono ?_; rintro e w' ⟨rfl, rfl⟩; rw [HX.out])
        go_ret
        exact ⟨ret_i64 (sqE_no (List.getElem_mem hlt) HX.out).symm, rfl⟩
    · obtain rfl : k = l.length := by omega
      go_wp2_with fail
      go_ret
      exact ⟨ret_i64 (sqE_yes (by simpa using HP.out)).symm, rfl⟩

set_option maxHeartbeats 2000000 in
theorem errorOfStop_any (s : ByteArray) (ps : List Bp) (A : Option Addr) (c : Nat) (hl : ps.length ≤ 1000) (stop : Int) (w : World) (hA : Lies w w.heap.size A (ps.flatMap pc)) :
    Calls Try.prog 23 #[.agg #[.string s, .slice A ps.length c], .int .i64 stop] w fun e w' => e = .returned (.int .i64 (stopE ps stop)) ∧ Below w.heap.size w w' := by
  have F0 := Lib.hid (Fr.b1 w 24 #[.string s, .slice A ps.length c])
  have HA := Lib.hid (Fr.lies hA F0.out)
  have hl' : (ps.length : Int) ≤ 1000 := by omega
  clear hA
  cases hi : inB stop 0 ((ps.length : Int) - 1) with
  | false =>
    have HE := Lib.hid (stopE_far hi)
    have HI := Lib.hid hi
    clear hi
    go_enter Try.func23, Try.ntmps23
    go_wp2_with (go_at_call 36; refine (within_any _ _ _ _).mono ?_; rintro e w' ⟨rfl, rfl⟩; rw [HI.out])
    go_ret
    exact ⟨ret_i64 HE.out.symm, F0.out.bl⟩
  | true =>
    have hb := inB_iff.1 hi
    obtain ⟨k, rfl, hk⟩ : ∃ k : Nat, stop = k ∧ k < ps.length := ⟨stop.toNat, by omega, by omega⟩
    have HE := Lib.hid (stopE_in hk)
    have HI := Lib.hid hi
    have hk' : (k : Int) < ps.length := by omega
    obtain ⟨a, rfl, _, _, _, _, c3⟩ := HA.out.piece (gp_at hk)
    clear hi hb
    cases hv : (gp ps k).lv
    all_goals
      have HV := Lib.hid hv
      rw [hv] at c3
      clear hv
      go_enter Try.func23, Try.ntmps23
      go_wp2_with (go_at_call 36; refine (within_any _ _ _ _).mono ?_; rintro e w' ⟨rfl, rfl⟩; rw [HI.out])
      go_ret
      exact ⟨ret_i64 (by rw [HE.out, HV.out]; rfl), F0.out.bl⟩

set_option maxHeartbeats 2000000 in
theorem StopErr_any (s : ByteArray) (ps : List Bp) (A : Option Addr) (c : Nat) (hl : ps.length ≤ 1000) (stop : Int) (w : World) (hA : Lies w w.heap.size A (ps.flatMap pc)) :
    Calls Try.prog 7 #[.agg #[.string s, .slice A ps.length c], .int .i64 stop] w fun e w' => e = .returned (.int .i64 (stopE ps stop)) ∧ Below w.heap.size w w' := by
  have F0 := Lib.hid (Fr.b1 w 24 #[.string s, .slice A ps.length c])
  have HA := Lib.hid (Fr.lies hA F0.out)
  have hl' : (ps.length : Int) ≤ 1000 := by omega
  clear hA
  cases hi : inB stop 0 ((ps.length : Int) - 1) with
  | false =>
    have HE := Lib.hid (stopE_far hi)
    have HI := Lib.hid hi
    clear hi
    go_enter Try.func7, Try.ntmps7
    go_wp2_with (go_at_call 18; refine (Within_any _ _ _ _).mono ?_; rintro e w' ⟨rfl, rfl⟩; rw [HI.out])
    go_ret
    exact ⟨ret_i64 HE.out.symm, F0.out.bl⟩
  | true =>
    have hb := inB_iff.1 hi
    obtain ⟨k, rfl, hk⟩ : ∃ k : Nat, stop = k ∧ k < ps.length := ⟨stop.toNat, by omega, by omega⟩
    have HE := Lib.hid (stopE_in hk)
    have HI := Lib.hid hi
    have hk' : (k : Int) < ps.length := by omega
    obtain ⟨a, rfl, _, _, _, _, c3⟩ := HA.out.piece (gp_at hk)
    clear hi hb
    cases hv : (gp ps k).lv
    all_goals
      have HV := Lib.hid hv
      rw [hv] at c3
      clear hv
      go_enter Try.func7, Try.ntmps7
      go_wp2_with (go_at_call 18; refine (Within_any _ _ _ _).mono ?_; rintro e w' ⟨rfl, rfl⟩; rw [HI.out])
      go_ret
      exact ⟨ret_i64 (by rw [HE.out, HV.out]; rfl), F0.out.bl⟩

set_option maxHeartbeats 2000000 in
theorem errorOfPost_any (s : ByteArray) (ps : List Bp) (A : Option Addr) (c : Nat) (hl : ps.length ≤ 1000) (p : Int) (w : World) :
    Calls Try.prog 39 #[.agg #[.string s, .slice A ps.length c], .int .i64 p] w fun e w' => e = .returned (.int .i64 (postE ps p)) ∧ Below w.heap.size w w' := by
  have F0 := Lib.hid (Fr.b1 w 24 #[.string s, .slice A ps.length c])
  cases hi : inB p 0 ps.length
  all_goals
    have HI := Lib.hid hi
    clear hi
    go_enter Try.func39, Try.ntmps39
    go_wp2_with (go_at_call 36; refine (within_any _ _ _ _).mono ?_; rintro e w' ⟨rfl, rfl⟩; rw [HI.out])
    go_ret
    exact ⟨ret_i64 (by unfold postE; rw [HI.out]; rfl), F0.out.bl⟩

set_option maxHeartbeats 2000000 in
theorem errorOfState_any (s : ByteArray) (ps : List Bp) (A : Option Addr) (c : Nat) (hl : ps.length ≤ 1000) (p sq : Int) (w : World) :
    Calls Try.prog 25 #[.agg #[.string s, .slice A ps.length c], .agg #[.int .i64 p, .int .i64 sq]] w fun e w' => e = .returned (.int .i64 (stateE ps p sq)) ∧ Below w.heap.size w w' := by
  have F0 := Lib.hid (Fr.b2 w 24 #[.string s, .slice A ps.length c] 28 #[.int .i64 p, .int .i64 sq])
  cases hi : inB p 0 ps.length with
  | false =>
    have HP : Hid (postE ps p = 6) := Lib.hid (by unfold postE; rw [hi]; rfl)
    have HE : Hid (stateE ps p sq = 6) := Lib.hid (by unfold stateE; rw [hi]; rfl)
    clear hi
    go_enter Try.func25, Try.ntmps25
    go_wp2_with fail
    refine (errorOfPost_any s ps A c hl p _).mono ?_
    rintro e w1 ⟨rfl, hb1⟩
    rw [HP.out]
    have F1 := Lib.hid (F0.out.call hb1)
    clear hb1 F0
    go_wp2_with fail
    go_ret
    exact ⟨ret_i64 HE.out.symm, F1.out.bl⟩
  | true =>
    have HP : Hid (postE ps p = 0) := Lib.hid (by unfold postE; rw [hi]; rfl)
    have HE : Hid (stateE ps p sq = sqE [sq]) := Lib.hid (by unfold stateE; rw [hi, sqE_one]; rfl)
    clear hi
    go_enter Try.func25, Try.ntmps25
    go_wp2_with fail
    refine (errorOfPost_any s ps A c hl p _).mono ?_
    rintro e w1 ⟨rfl, hb1⟩
    rw [HP.out]
    have F1 := Lib.hid (F0.out.call hb1)
    obtain ⟨x0, x1, _, _⟩ := F1.out.top.two
    have L1 : Hid (Lies (w1.alloc (.cells #[.int .i64 sq] 3)) (w1.alloc (.cells #[.int .i64 sq] 3)).heap.size (some ⟨w1.heap.size, 0, none⟩) (ic [sq])) := Lib.hid (own_lies (g := ⟨some ⟨w1.heap.size, 0, none⟩, 1⟩) (own_oneE (base := w1.heap.size) (Nat.le_refl _))).1
    clear hb1 F0
    go_wp2_with fail
    refine (errorOfSquare_any [sq] _ 1 (by simp [maxLen]) _ L1.out).mono ?_
    rintro e w2 ⟨rfl, rfl⟩
    go_wp2_with fail
    go_ret
    exact ⟨ret_i64 HE.out.symm, (F1.out.new _).bl⟩

set_option maxHeartbeats 1000000 in
theorem errorOfOrder_any (p sq stop : Int) (w : World) : Calls Try.prog 26 #[.agg #[.int .i64 p, .int .i64 sq], .int .i64 stop] w fun e w' => e = .returned (.int .i64 (orderE p stop)) ∧ Below w.heap.size w w' := by
  have F0 := Lib.hid (Fr.b1 w 28 #[.int .i64 p, .int .i64 sq])
  by_cases h : stop < p
  all_goals
    go_enter Try.func26, Try.ntmps26
    go_wp2_with fail
    go_ret
    exact ⟨ret_i64 (by unfold orderE; first | rw [if_pos (by omega)] | rw [if_neg (by omega)]), F0.out.bl⟩

set_option maxHeartbeats 2000000 in
theorem StateErr_any (s : ByteArray) (ps : List Bp) (A : Option Addr) (c : Nat) (hl : ps.length ≤ 1000) (p sq : Int) (w : World) :
    Calls Try.prog 8 #[.agg #[.string s, .slice A ps.length c], .agg #[.int .i64 p, .int .i64 sq]] w fun e w' => e = .returned (.int .i64 (stateE ps p sq)) ∧ Below w.heap.size w w' := by
  have F0 := Lib.hid (Fr.b2 w 24 #[.string s, .slice A ps.length c] 28 #[.int .i64 p, .int .i64 sq])
  cases hi : inB p 0 ps.length <;> cases hj : inB sq 0 20000000000
  all_goals
    have HE : Hid (stateE ps p sq = if inB p 0 ps.length = false then 6 else if inB sq 0 20000000000 = true then 0 else 2) := Lib.hid rfl
    have HI := Lib.hid hi
    have HJ := Lib.hid hj
    clear hi hj
    go_enter Try.func8, Try.ntmps8
    go_wp2_with (go_at_call 18; refine (Within_any _ _ _ _).mono ?_; rintro e w' ⟨rfl, rfl⟩; (first | rw [HI.out] | rw [HJ.out]))
    go_ret
    exact ⟨ret_i64 (by rw [HE.out, HI.out, HJ.out]; rfl), F0.out.bl⟩

set_option maxHeartbeats 2000000 in
theorem TrackErr_any (s : ByteArray) (hs : s.size ≤ maxLen) (ps : List Bp) (A : Option Addr) (c : Nat) (hl : ps.length ≤ maxLen) (w : World) (hA : Lies w w.heap.size A (ps.flatMap pc)) :
    Calls Try.prog 11 #[.agg #[.string s, .slice A ps.length c]] w fun e w' => e = .returned (.int .i64 (trE s ps).2) ∧ Below w.heap.size w w' := by
  have HA := Lib.hid hA
  have F0 := Lib.hid (Fr.b1 w 24 #[.string s, .slice A ps.length c])
  clear hA
  go_enter Try.func11, Try.ntmps11
  go_wp2_with fail
  refine (refCheckTrack_any s hs ps A c hl _ (Fr.lies HA.out F0.out)).mono ?_
  rintro e w1 ⟨rfl, hb1⟩
  have F1 := Lib.hid (F0.out.call hb1)
  clear hb1 F0
  go_wp2_with fail
  go_ret
  exact ⟨rfl, F1.out.bl⟩

end Go.Proofs.Ytaghpemdcmjchaa
