
/-
  The walk of StatorBooks.
-/
import Derived.Test.YtohldmmfnjfgmaaDoorTBkC
import Derived.Test.YtohldmmfnjfgmaaDoorTAwk
import Derived.Test.YtohldmmfnjfgmaaDoorTRefF
namespace Go.Proofs.YtohldmmfnjfgmaaDoor
open Go.RowKit

theorem mul_in {v u : T3} {A B : Int} (hv : (-A ≤ v.a ∧ v.a ≤ A) ∧ -A ≤ v.b ∧ v.b ≤ A) (hu : (-B ≤ u.a ∧ u.a ≤ B) ∧ -B ≤ u.b ∧ u.b ≤ B) : (-(3 * (A * B)) ≤ (v.mul u).a ∧ (v.mul u).a ≤ 3 * (A * B)) ∧ -(3 * (A * B)) ≤ (v.mul u).b ∧ (v.mul u).b ≤ 3 * (A * B) := by
  have h1 := mulB hv.1 hu.1
  have h2 := mulB hv.2 hu.2
  have h3 := mulB hv.1 hu.2
  have h4 := mulB hv.2 hu.1
  simp only [T3.mul]
  omega
/-- What is known of a book ahead of the walk. -/
theorem books_known (l : List Stp) (hl : l.length ≤ 20 ∨ (60 < l.length ∧ l.length ≤ 62)) : ∃ fb lb gb d : Int,
    (∀ w A c, Lies w w.heap.size A (l.flatMap stc) → Calls Tryd.prog 35 #[.slice A l.length c] w fun e w' => e = .returned (.tuple #[.agg #[.int .i64 fb, .int .i64 lb, .int .i64 gb], .int .i64 d]) ∧ Below w.heap.size w w') ∧
    (∀ w A c, Lies w w.heap.size A (l.flatMap stc) → Calls Tryd.prog 37 #[.slice A l.length c] w fun e w' => e = .returned (.int .i64 d) ∧ Below w.heap.size w w') ∧
    ((d ≠ 0 ∧ fb = 0 ∧ lb = 0 ∧ gb = 0) ∨ (d = 0 ∧ lb + gb = fb ∧ (-9000000000000000 ≤ lb ∧ lb ≤ 9000000000000000) ∧ (-9000000000000000 ≤ gb ∧ gb ≤ 9000000000000000) ∧
      ∀ w A c, Lies w w.heap.size A (l.flatMap stc) → Calls Tryd.prog 38 #[.slice A l.length c] w fun e w' => e = .returned (.agg #[.int .i64 fb, .int .i64 lb, .int .i64 gb]) ∧ Below w.heap.size w w')) := by
  rcases hl with hl | ⟨h1, h2⟩
  · cases ha : l.all Stp.ok with
    | true =>
      have hx := List.all_eq_true.1 ha
      have hb := book_in l hx
      refine ⟨fedV l, lostV l, fedV l - lostV l, 0, fun w A c hA => (BookOf_any l A c (by omega) w hA).mono fun e w' h => ?_, fun w A c hA => ?_, .inr ⟨rfl, by omega, by omega, by omega, fun w A c hA => refBookOf_any l A c (by omega) hx w hA⟩⟩
      · obtain ⟨⟨_, he⟩ | ⟨hf, _⟩, hb⟩ := h
        · exact ⟨he, hb⟩
        · rw [ha] at hf; cases hf
      · have := BookErr_any l A c (by omega) w hA
        rwa [bkE_ok (by omega) ha] at this
    | false =>
      refine ⟨0, 0, 0, 2, fun w A c hA => (BookOf_any l A c (by omega) w hA).mono fun e w' h => ?_, fun w A c hA => ?_, .inl ⟨by decide, rfl, rfl, rfl⟩⟩
      · obtain ⟨⟨hf, _⟩ | ⟨_, he⟩, hb⟩ := h
        · rw [ha] at hf; cases hf
        · exact ⟨he, hb⟩
      · have := BookErr_any l A c (by omega) w hA
        rwa [bkE_bad (by omega) ha] at this
  · refine ⟨0, 0, 0, 8, fun w A c _ => BookOf_long l A c h1 (by omega) w, fun w A c hA => ?_, .inl ⟨by decide, rfl, rfl, rfl⟩⟩
    have := BookErr_any l A c (by omega) w hA
    rwa [bkE_long h1] at this

set_option maxHeartbeats 8000000 in
set_option maxRecDepth 100000 in
theorem books_out1 (l : List Stp) (g : Hd) (h1 : 20 < l.length) (h2 : l.length ≤ 60) (w : World) (hT : Tab w) : Calls Tryd.prog 6 #[.slice g.A l.length g.c] w fun e w' => e = .returned (.bool true) ∧ Below w.heap.size w w' := by
  have g1 : (20 : Int) < (l.length : Int) := by omega
  have g2 : (l.length : Int) ≤ 60 := by omega
  clear h1 h2
  go_enter Tryd.func6, Tryd.ntmps6
  go_wp2_with fail
  refine (awake_any _ hT).mono ?_
  rintro e w1 ⟨rfl, hb1⟩
  go_wp2_with fail
  go_ret
  exact ⟨rfl, hb1⟩

set_option maxHeartbeats 8000000 in
set_option maxRecDepth 100000 in
theorem books_out2 (l : List Stp) (g : Hd) (h1 : 62 < l.length) (h2 : l.length ≤ maxLen) (w : World) (hT : Tab w) : Calls Tryd.prog 6 #[.slice g.A l.length g.c] w fun e w' => e = .returned (.bool true) ∧ Below w.heap.size w w' := by
  unfold maxLen at h2
  have g1 : (20 : Int) < (l.length : Int) := by omega
  have g2 : ¬ (l.length : Int) ≤ 60 := by omega
  have g3 : (62 : Int) < (l.length : Int) := by omega
  clear h1 h2
  go_enter Tryd.func6, Tryd.ntmps6
  go_wp2_with fail
  refine (awake_any _ hT).mono ?_
  rintro e w1 ⟨rfl, hb1⟩
  go_wp2_with fail
  go_ret
  exact ⟨rfl, hb1⟩

set_option maxHeartbeats 8000000 in
set_option maxRecDepth 100000 in
theorem books_in (l : List Stp) (g : Hd) (hg : HdOk g) (h1 : l.length ≤ 20 ∨ (60 < l.length ∧ l.length ≤ 62)) (w : World) (hT : Tab w) (hA : Lies w w.heap.size g.A (l.flatMap stc)) : Calls Tryd.prog 6 #[.slice g.A l.length g.c] w fun e w' => e = .returned (.bool true) ∧ Below w.heap.size w w' := by
  obtain ⟨fb, lb, gb, d, kb, ke, kd⟩ := books_known l (h1)
  have hl62 : l.length ≤ 62 := by omega
  have gl2 : (l.length : Int) ≤ 62 := by omega
  have KB := Lib.hid kb
  have KE := Lib.hid ke
  have KD := Lib.hid kd
  have HA := Lib.hid hA
  have HG := Lib.hid hg
  clear kb ke kd hA hg
  go_enter Tryd.func6, Tryd.ntmps6
  go_wp2_with fail
  refine (awake_any _ hT).mono ?_
  rintro e w1 ⟨rfl, hb1⟩
  have F1 := Lib.hid (Fr.call (Fr.nil w) hb1)
  clear hb1 hT
  go_upto_region 3 with fail
  go_cut [30] from 18 to 30 (fun r W => r = .bool false ∧ Fr w W [])
  case first =>
    rcases h1 with h | ⟨h, h'⟩
    · have e1 : ¬ (20 : Int) < (l.length : Int) := by omega
      have e2 : ¬ (62 : Int) < (l.length : Int) := by omega
      go_wp2_with fail
      go_meet
      exact ⟨rfl, F1.out⟩
    · have e1 : (20 : Int) < (l.length : Int) := by omega
      have e2 : ¬ (l.length : Int) ≤ 60 := by omega
      have e3 : ¬ (62 : Int) < (l.length : Int) := by omega
      go_wp2_with fail
      go_meet
      exact ⟨rfl, F1.out⟩
  case rest =>
  obtain ⟨wx, rfl⟩ : ∃ W, W = wc := ⟨_, rfl⟩
  obtain ⟨rfl, hx⟩ := hcut
  clear F1
  have F1 := Lib.hid hx
  clear hx h1
  go_wp2_with fail
  refine (CopySteps_any l g (by omega) HG.out _ (Fr.lies HA.out F1.out)).mono ?_
  rintro e w2 ⟨g2, rfl, hl2, hb2⟩
  have F2 := Lib.hid (F1.out.call hb2)
  have HL2 := Lib.hid hl2
  clear hb2 hl2 F1
  go_wp2_with fail
  refine (KB.out _ _ _ HL2.out).mono ?_
  rintro e wb ⟨rfl, hb3⟩
  have F3 : Hid (Fr w _ [(wb.heap.size, 67, #[.int .i64 fb, .int .i64 lb, .int .i64 gb])]) := Lib.hid ((F2.out.call hb3).box 67 #[.int .i64 fb, .int .i64 lb, .int .i64 gb])
  clear hb3 F2 HL2
  go_wp2_with fail
  refine (KE.out _ _ _ (Fr.lies HA.out F3.out)).mono ?_
  rintro e w4 ⟨rfl, hb4⟩
  have F4 : Hid (Fr w _ [(wb.heap.size, 67, #[.int .i64 fb, .int .i64 lb, .int .i64 gb])]) := Lib.hid (F3.out.call hb4)
  clear hb4 F3
  go_upto_region 7 with fail
  go_cut [74] from 39 to 74 (fun r W => r = .bool false ∧ Fr w W [(wb.heap.size, 67, #[.int .i64 fb, .int .i64 lb, .int .i64 gb])])
  case first =>
    have HALL : Hid (∀ W, Fr w W [(wb.heap.size, 67, #[.int .i64 fb, .int .i64 lb, .int .i64 gb])] → Fr w W [(wb.heap.size, 67, #[.int .i64 fb, .int .i64 lb, .int .i64 gb])] ∧ W.cell? ⟨wb.heap.size, 0, none⟩ = some (.int .i64 fb) ∧ W.cell? ⟨wb.heap.size, 1, none⟩ = some (.int .i64 lb) ∧ W.cell? ⟨wb.heap.size, 2, none⟩ = some (.int .i64 gb)) := Lib.hid (fun W hW => ⟨hW, hW.top.cell 0, hW.top.cell 1, hW.top.cell 2⟩)
    have F10 : Fr w _ [(wb.heap.size, 67, #[.int .i64 fb, .int .i64 lb, .int .i64 gb])] := F4.out
    clear F4
    rcases KD.out with ⟨hd, rfl, rfl, rfl⟩ | ⟨rfl, he, hbl, hbg, hr⟩
    · have gn : (d != 0) = true := by simp [hd]
      have ge : (d == 0) = false := by simp [hd]
      clear hd KB KE KD
      have c0 := F10.top.cell 0
      have c1 := F10.top.cell 1
      have c2 := F10.top.cell 2
      have F12 := Lib.hid F10
      clear F10 HALL
      (first | go_quiet (fail) | fail "quiet")
      all_goals
        go_wp2_with fail
        go_meet
        exact ⟨rfl, F12.out.call (below_drewN (Below.refl _ _) _)⟩
    · have HR := Lib.hid hr
      obtain ⟨b1, b2⟩ := hbl
      obtain ⟨b3, b4⟩ := hbg
      have hw1 : IntKind.i64.wrap (lb + gb) = fb := by rw [← he]; exact IntWalk.i64_in _ ⟨by omega, by omega⟩
      clear hr he KB KE KD
      refine Tw_start 35 (fun W => Fr w W [(wb.heap.size, 67, #[.int .i64 fb, .int .i64 lb, .int .i64 gb])] ∧ W.cell? ⟨wb.heap.size, 0, none⟩ = some (.int .i64 fb) ∧ W.cell? ⟨wb.heap.size, 1, none⟩ = some (.int .i64 lb) ∧ W.cell? ⟨wb.heap.size, 2, none⟩ = some (.int .i64 gb)) (by kernel_rfl) (by kernel_rfl) rfl ?_ ?_
      · (try dsimp only)
        ((go_split_ands; refine HALL.out _ ?_; (first | assumption | (repeat (first | assumption | refine Fr.new ?_ _ | refine Fr.drew ?_ | (refine Fr.set ?_ (by first | exact Nat.le_refl _ | omega | (simp; done) | (simp; omega)) (by first | (simp; done) | (simp; omega)) _))); done)))
      refine Tw_takeL (i := 0) (v := ?tv11) rfl (by kernel_rfl) (by decide) (by kernel_rfl) (by kernel_rfl) (fun _ _ _ h => h) (by rfl) ?ty11 ?tn11
      case ty11 => (intro w hSw; (try dsimp only at hSw); go_simp <;> with_reducible rfl)
      (try simp only [Act.put, List.setIfInBounds_toArray, List.set_cons_zero, List.set_cons_succ])
      refine Tw_takeL (i := 1) (v := ?tv12) rfl (by kernel_rfl) (by decide) (by kernel_rfl) (by kernel_rfl) (fun _ _ _ h => h) (by rfl) ?ty12 ?tn12
      case ty12 => (intro w hSw; (try dsimp only at hSw); go_simp <;> with_reducible rfl)
      (try simp only [Act.put, List.setIfInBounds_toArray, List.set_cons_zero, List.set_cons_succ])
      refine Tw_takeL (i := 2) (v := ?tv13) rfl (by kernel_rfl) (by decide) (by kernel_rfl) (by kernel_rfl) (fun _ _ _ h => h) (by rfl) ?ty13 ?tn13
      case ty13 => (intro w hSw; (try dsimp only at hSw); go_simp <;> with_reducible rfl)
      (try simp only [Act.put, List.setIfInBounds_toArray, List.set_cons_zero, List.set_cons_succ])
      refine Tw_skipL (i := 3) rfl (by kernel_rfl) (by decide) (by kernel_rfl) (by kernel_rfl) (fun _ _ _ h => h) (by rfl) ?tn14
      (try simp only [Act.put, List.setIfInBounds_toArray, List.set_cons_zero, List.set_cons_succ])
      refine Tw_skipL (i := 4) rfl (by kernel_rfl) (by decide) (by kernel_rfl) (by kernel_rfl) (fun _ _ _ h => h) (by rfl) ?tn15
      (try simp only [Act.put, List.setIfInBounds_toArray, List.set_cons_zero, List.set_cons_succ])
      refine Tw_skipL (i := 5) rfl (by kernel_rfl) (by decide) (by kernel_rfl) (by kernel_rfl) (fun _ _ _ h => h) (by rfl) ?tn16
      (try simp only [Act.put, List.setIfInBounds_toArray, List.set_cons_zero, List.set_cons_succ])
      refine Tw_skipL (i := 6) rfl (by kernel_rfl) (by decide) (by kernel_rfl) (by kernel_rfl) (fun _ _ _ h => h) (by rfl) ?tn17
      (try simp only [Act.put, List.setIfInBounds_toArray, List.set_cons_zero, List.set_cons_succ])
      refine Tw_skipL (i := 7) rfl (by kernel_rfl) (by decide) (by kernel_rfl) (by kernel_rfl) (fun _ _ _ h => h) (by rfl) ?tn18
      (try simp only [Act.put, List.setIfInBounds_toArray, List.set_cons_zero, List.set_cons_succ])
      refine Tw_skipL (i := 8) rfl (by kernel_rfl) (by decide) (by kernel_rfl) (by kernel_rfl) (fun _ _ _ h => h) (by rfl) ?tn19
      (try simp only [Act.put, List.setIfInBounds_toArray, List.set_cons_zero, List.set_cons_succ])
      refine Tw_skipL (i := 9) rfl (by kernel_rfl) (by decide) (by kernel_rfl) (by kernel_rfl) (fun _ _ _ h => h) (by rfl) ?tn20
      (try simp only [Act.put, List.setIfInBounds_toArray, List.set_cons_zero, List.set_cons_succ])
      refine Tw_skipL (i := 10) rfl (by kernel_rfl) (by decide) (by kernel_rfl) (by kernel_rfl) (fun _ _ _ h => h) (by rfl) ?tn21
      (try simp only [Act.put, List.setIfInBounds_toArray, List.set_cons_zero, List.set_cons_succ])
      refine Tw_takeL (i := 11) (v := ?tv22) rfl (by kernel_rfl) (by decide) (by kernel_rfl) (by kernel_rfl) (fun _ _ _ h => h) (by rfl) ?ty22 ?tn22
      case ty22 => (intro w hSw; (try dsimp only at hSw); go_simp <;> with_reducible rfl)
      (try simp only [Act.put, List.setIfInBounds_toArray, List.set_cons_zero, List.set_cons_succ])
      refine Tw_takeL (i := 12) (v := ?tv23) rfl (by kernel_rfl) (by decide) (by kernel_rfl) (by kernel_rfl) (fun _ _ _ h => h) (by rfl) ?ty23 ?tn23
      case ty23 => (intro w hSw; (try dsimp only at hSw); go_simp <;> with_reducible rfl)
      (try simp only [Act.put, List.setIfInBounds_toArray, List.set_cons_zero, List.set_cons_succ])
      refine Tw_takeL (i := 13) (v := ?tv24) rfl (by kernel_rfl) (by decide) (by kernel_rfl) (by kernel_rfl) (fun _ _ _ h => h) (by rfl) ?ty24 ?tn24
      case ty24 => (intro w hSw; (try dsimp only at hSw); go_simp <;> with_reducible rfl)
      (try simp only [Act.put, List.setIfInBounds_toArray, List.set_cons_zero, List.set_cons_succ])
      refine Tw_takeL (i := 14) (v := ?tv25) rfl (by kernel_rfl) (by decide) (by kernel_rfl) (by kernel_rfl) (fun _ _ _ h => h) (by rfl) ?ty25 ?tn25
      case ty25 => (intro w hSw; (try dsimp only at hSw); go_simp <;> with_reducible rfl)
      (try simp only [Act.put, List.setIfInBounds_toArray, List.set_cons_zero, List.set_cons_succ])
      refine Tw_takeL (i := 15) (v := ?tv26) rfl (by kernel_rfl) (by decide) (by kernel_rfl) (by kernel_rfl) (fun _ _ _ h => h) (by rfl) ?ty26 ?tn26
      case ty26 => (intro w hSw; (try dsimp only at hSw); go_simp <;> with_reducible rfl)
      (try simp only [Act.put, List.setIfInBounds_toArray, List.set_cons_zero, List.set_cons_succ])
      refine Tw_takeL (i := 16) (v := ?tv27) rfl (by kernel_rfl) (by decide) (by kernel_rfl) (by kernel_rfl) (fun _ _ _ h => h) (by rfl) ?ty27 ?tn27
      case ty27 => (intro w hSw; (try dsimp only at hSw); go_simp <;> with_reducible rfl)
      (try simp only [Act.put, List.setIfInBounds_toArray, List.set_cons_zero, List.set_cons_succ])
      refine Tw_takeL (i := 17) (v := ?tv28) rfl (by kernel_rfl) (by decide) (by kernel_rfl) (by kernel_rfl) (fun _ _ _ h => h) (by rfl) ?ty28 ?tn28
      case ty28 => (intro w hSw; (try dsimp only at hSw); go_simp <;> with_reducible rfl)
      (try simp only [Act.put, List.setIfInBounds_toArray, List.set_cons_zero, List.set_cons_succ])
      refine Tw_takeL (i := 18) (v := ?tv29) rfl (by kernel_rfl) (by decide) (by kernel_rfl) (by kernel_rfl) (fun _ _ _ h => h) (by rfl) ?ty29 ?tn29
      case ty29 => (intro w hSw; (try dsimp only at hSw); go_simp <;> with_reducible rfl)
      (try simp only [Act.put, List.setIfInBounds_toArray, List.set_cons_zero, List.set_cons_succ])
      refine Tw_takeL (i := 19) (v := ?tv30) rfl (by kernel_rfl) (by decide) (by kernel_rfl) (by kernel_rfl) (fun _ _ _ h => h) (by rfl) ?ty30 ?tn30
      case ty30 => (intro w hSw; (try dsimp only at hSw); go_simp <;> with_reducible rfl)
      (try simp only [Act.put, List.setIfInBounds_toArray, List.set_cons_zero, List.set_cons_succ])
      refine Tw_takeL (i := 20) (v := ?tv31) rfl (by kernel_rfl) (by decide) (by kernel_rfl) (by kernel_rfl) (fun _ _ _ h => h) (by rfl) ?ty31 ?tn31
      case ty31 => (intro w hSw; (try dsimp only at hSw); go_simp <;> with_reducible rfl)
      (try simp only [Act.put, List.setIfInBounds_toArray, List.set_cons_zero, List.set_cons_succ])
      refine Tw_all (rs := [21]) (by kernel_rfl) (by simp) (by decide) (fun hHeld => ?_)
      refine AllT.consL rfl (fun K hK => ?_) AllT.nil
      go_simp
      (go_at_call 38; go_split_ands; (with_reducible refine (HR.out _ _ _ (Fr.lies HA.out (by assumption))).mono ?_); rintro e w8 ⟨rfl, hb8⟩; have F14 := Fr.call (by assumption) hb8; clear hb8)
      refine hK.out _ _ ?_ ?_
      · (try dsimp only)
        ((go_split_ands; refine HALL.out _ ?_; (first | assumption | (repeat (first | assumption | refine Fr.new ?_ _ | refine Fr.drew ?_ | (refine Fr.set ?_ (by first | exact Nat.le_refl _ | omega | (simp; done) | (simp; omega)) (by first | (simp; done) | (simp; omega)) _))); done)))
      clear hK K
      (try simp only [Act.put, List.setIfInBounds_toArray, List.set_cons_zero, List.set_cons_succ])
      refine Tw_takeL (i := 22) (v := ?tv32) rfl (by kernel_rfl) (by decide) (by kernel_rfl) (by kernel_rfl) (fun _ _ _ h => h) (by rfl) ?ty32 ?tn32
      case ty32 => (intro w hSw; (try dsimp only at hSw); go_simp <;> with_reducible rfl)
      (try simp only [Act.put, List.setIfInBounds_toArray, List.set_cons_zero, List.set_cons_succ])
      refine Tw_takeL (i := 23) (v := ?tv33) rfl (by kernel_rfl) (by decide) (by kernel_rfl) (by kernel_rfl) (fun _ _ _ h => h) (by rfl) ?ty33 ?tn33
      case ty33 => (intro w hSw; (try dsimp only at hSw); go_simp <;> with_reducible rfl)
      (try simp only [Act.put, List.setIfInBounds_toArray, List.set_cons_zero, List.set_cons_succ])
      refine Tw_takeL (i := 24) (v := ?tv34) rfl (by kernel_rfl) (by decide) (by kernel_rfl) (by kernel_rfl) (fun _ _ _ h => h) (by rfl) ?ty34 ?tn34
      case ty34 => (intro w hSw; (try dsimp only at hSw); go_simp <;> with_reducible rfl)
      (try simp only [Act.put, List.setIfInBounds_toArray, List.set_cons_zero, List.set_cons_succ])
      refine Tw_takeL (i := 25) (v := ?tv35) rfl (by kernel_rfl) (by decide) (by kernel_rfl) (by kernel_rfl) (fun _ _ _ h => h) (by rfl) ?ty35 ?tn35
      case ty35 => (intro w hSw; (try dsimp only at hSw); go_simp <;> with_reducible rfl)
      (try simp only [Act.put, List.setIfInBounds_toArray, List.set_cons_zero, List.set_cons_succ])
      refine Tw_takeL (i := 26) (v := ?tv36) rfl (by kernel_rfl) (by decide) (by kernel_rfl) (by kernel_rfl) (fun _ _ _ h => h) (by rfl) ?ty36 ?tn36
      case ty36 => (intro w hSw; (try dsimp only at hSw); go_simp <;> with_reducible rfl)
      (try simp only [Act.put, List.setIfInBounds_toArray, List.set_cons_zero, List.set_cons_succ])
      refine Tw_takeL (i := 27) (v := ?tv37) rfl (by kernel_rfl) (by decide) (by kernel_rfl) (by kernel_rfl) (fun _ _ _ h => h) (by rfl) ?ty37 ?tn37
      case ty37 => (intro w hSw; (try dsimp only at hSw); go_simp <;> with_reducible rfl)
      (try simp only [Act.put, List.setIfInBounds_toArray, List.set_cons_zero, List.set_cons_succ])
      refine Tw_takeL (i := 28) (v := ?tv38) rfl (by kernel_rfl) (by decide) (by kernel_rfl) (by kernel_rfl) (fun _ _ _ h => h) (by rfl) ?ty38 ?tn38
      case ty38 => (intro w hSw; (try dsimp only at hSw); go_simp <;> with_reducible rfl)
      (try simp only [Act.put, List.setIfInBounds_toArray, List.set_cons_zero, List.set_cons_succ])
      refine Tw_takeL (i := 29) (v := ?tv39) rfl (by kernel_rfl) (by decide) (by kernel_rfl) (by kernel_rfl) (fun _ _ _ h => h) (by rfl) ?ty39 ?tn39
      case ty39 => (intro w hSw; (try dsimp only at hSw); go_simp <;> with_reducible rfl)
      (try simp only [Act.put, List.setIfInBounds_toArray, List.set_cons_zero, List.set_cons_succ])
      refine Tw_takeL (i := 30) (v := ?tv40) rfl (by kernel_rfl) (by decide) (by kernel_rfl) (by kernel_rfl) (fun _ _ _ h => h) (by rfl) ?ty40 ?tn40
      case ty40 => (intro w hSw; (try dsimp only at hSw); go_simp <;> with_reducible rfl)
      (try simp only [Act.put, List.setIfInBounds_toArray, List.set_cons_zero, List.set_cons_succ])
      refine Tw_takeL (i := 31) (v := ?tv41) rfl (by kernel_rfl) (by decide) (by kernel_rfl) (by kernel_rfl) (fun _ _ _ h => h) (by rfl) ?ty41 ?tn41
      case ty41 => (intro w hSw; (try dsimp only at hSw); go_simp <;> with_reducible rfl)
      (try simp only [Act.put, List.setIfInBounds_toArray, List.set_cons_zero, List.set_cons_succ])
      refine Tw_takeL (i := 32) (v := ?tv42) rfl (by kernel_rfl) (by decide) (by kernel_rfl) (by kernel_rfl) (fun _ _ _ h => h) (by rfl) ?ty42 ?tn42
      case ty42 => (intro w hSw; (try dsimp only at hSw); go_simp <;> with_reducible rfl)
      (try simp only [Act.put, List.setIfInBounds_toArray, List.set_cons_zero, List.set_cons_succ])
      refine Tw_takeL (i := 33) (v := ?tv43) rfl (by kernel_rfl) (by decide) (by kernel_rfl) (by kernel_rfl) (fun _ _ _ h => h) (by rfl) ?ty43 ?tn43
      case ty43 => (intro w hSw; (try dsimp only at hSw); go_simp <;> with_reducible rfl)
      (try simp only [Act.put, List.setIfInBounds_toArray, List.set_cons_zero, List.set_cons_succ])
      refine Tw_takeL (i := 34) (v := ?tv44) rfl (by kernel_rfl) (by decide) (by kernel_rfl) (by kernel_rfl) (fun _ _ _ h => h) (by rfl) ?ty44 ?tn44
      case ty44 => (intro w hSw; (try dsimp only at hSw); go_simp <;> with_reducible rfl)
      (try simp only [Act.put, List.setIfInBounds_toArray, List.set_cons_zero, List.set_cons_succ])
      refine Tw_end (by kernel_rfl) (fun hh => ?_)
      obtain ⟨F14, _⟩ := hh
      go_wp2_with fail
      go_meet
      exact ⟨rfl, F14⟩
  case rest =>
    obtain ⟨wy, rfl⟩ : ∃ W, W = wc := ⟨_, rfl⟩
    obtain ⟨rfl, hx⟩ := hcut
    have F5 := Lib.hid hx.tail
    clear hx F4 KB KE KD
    go_wp2_with fail
    go_loopw [6] (fun i wr => ∃ k : Nat, k ≤ l.length ∧ i = .int .i64 k ∧ Fr w wr []) (fun i _ => l.length - (intOf i).toNat)
    case atStart => exact ⟨0, Nat.zero_le _, rfl, F5.out⟩
    case round =>
      obtain ⟨k, hk, rfl, hfr⟩ := hrel
      have FK := Lib.hid hfr
      clear hfr F5
      by_cases hlt : k < l.length
      · have hlt' : (k : Int) < (l.length : Int) := by omega
        by_cases h20 : k < 20
        · have h20' : (k : Int) < 20 := by omega
          obtain ⟨s, hs⟩ : ∃ s, l[k]? = some s := ⟨_, List.getElem?_eq_getElem hlt⟩
          obtain ⟨a, ea, hab, c0, c1, c2, c3, c4, c5, c6⟩ := HA.out.step hs
          have HCX : Hid (∀ W, Below w.heap.size w W → W.cell? (a.add (k * 7)) = some (.int .i64 s.v.x) ∧ W.cell? ⟨(a.add (k * 7)).block, (a.add (k * 7)).off + 1, none⟩ = some (.int .i64 s.v.y) ∧ W.cell? ⟨(a.add (k * 7)).block, (a.add (k * 7)).off + 2, none⟩ = some (.int .i64 s.v.z) ∧ W.cell? ⟨(a.add (k * 7)).block, (a.add (k * 7)).off + 3, none⟩ = some (.int .i64 s.c.x) ∧ W.cell? ⟨(a.add (k * 7)).block, (a.add (k * 7)).off + 4, none⟩ = some (.int .i64 s.c.y) ∧ W.cell? ⟨(a.add (k * 7)).block, (a.add (k * 7)).off + 5, none⟩ = some (.int .i64 s.c.z) ∧ W.cell? ⟨(a.add (k * 7)).block, (a.add (k * 7)).off + 6, none⟩ = some (.int .i64 s.ohm)) := Lib.hid (fun W hb => by
            obtain ⟨a', ea', _, c0, c1, c2, c3, c4, c5, c6⟩ := (HA.out.below hb).step hs
            rw [ea] at ea'
            cases ea'
            exact ⟨c0, c1, c2, c3, c4, c5, c6⟩)
          clear hs c0 c1 c2 c3 c4 c5 c6 hab
          obtain ⟨GA, gc⟩ := g
          simp only at ea
          subst ea
          go_upto_region 12 with fail
          go_cut [7, 8] from 85 to 94 (fun r u W => ∃ q1 q2, r = .pointer (some ⟨q1, 0, none⟩) ∧ u = .pointer (some ⟨q2, 0, none⟩) ∧ Fr w W [(q2, 73, #[.int .i64 s.c.x, .int .i64 s.c.y, .int .i64 s.c.z]), (q1, 73, #[.int .i64 s.v.x, .int .i64 s.v.y, .int .i64 s.v.z])])
          case first =>
            obtain ⟨c0, c1, c2, c3, c4, c5, c6⟩ := HCX.out _ FK.out.bl
            have hz := FK.out.size
            have hzz := cell_lt c0
            (first | go_region | fail "region12")
            all_goals
              go_wp2_with fail
              go_meet
              refine ⟨_, _, rfl, rfl, ?_⟩
              first
                | (have h := (FK.out.box 73 #[.int .i64 s.v.x, .int .i64 s.v.y, .int .i64 s.v.z]).box 73 #[.int .i64 s.c.x, .int .i64 s.c.y, .int .i64 s.c.z]; rw [World.size_alloc] at h; exact h.drew)
                | (have h := (FK.out.box 73 #[.int .i64 s.c.x, .int .i64 s.c.y, .int .i64 s.c.z]).box 73 #[.int .i64 s.v.x, .int .i64 s.v.y, .int .i64 s.v.z]; rw [World.size_alloc] at h; exact h.swap.drew)
          case rest =>
            obtain ⟨wx, rfl⟩ : ∃ W, W = wc := ⟨_, rfl⟩
            obtain ⟨q1, q2, rfl, rfl, hx⟩ := hcut
            have F2 := Lib.hid hx
            clear hx FK HCX
            obtain ⟨v0, v1, v2⟩ := F2.out.at1.three
            obtain ⟨y0, y1, y2⟩ := F2.out.top.three
            obtain ⟨nn, hnn⟩ : ∃ n, (if (s.v.ok && s.c.ok) = true then pwV s.v s.c else 0) = n := ⟨_, rfl⟩
            obtain ⟨er, her⟩ : ∃ n, (if (s.v.ok && s.c.ok) = true then (0 : Int) else 2) = n := ⟨_, rfl⟩
            have HP := Lib.hid (PowerOf_any s.v s.c)
            rw [hnn, her] at HP
            have HPV := Lib.hid (PhasesErr_any s.v.x s.v.y s.v.z)
            have HPC := Lib.hid (PhasesErr_any s.c.x s.c.y s.c.z)
            rw [ph_three] at HPV HPC
            have NX : (k + 1 ≤ l.length) := by omega
            cases hv : s.v.ok with
            | false =>
              rw [hv] at HPV
              rw [hv, Bool.false_and, if_neg (by simp)] at hnn her
              subst hnn
              subst her
              simp only [Bool.false_eq_true, if_false, reduceCtorEq] at HPV
              clear HPC hv
              go_wp2_with fail
              refine (HP.out _).mono ?_
              rintro e w5 ⟨rfl, hb5⟩
              have F6 := Lib.hid (F2.out.call hb5)
              clear hb5 F2 v0 v1 v2 y0 y1 y2
              obtain ⟨v0, v1, v2⟩ := F6.out.at1.three
              go_wp2_with fail
              refine (HPV.out _).mono ?_
              rintro e w6 ⟨rfl, hb6⟩
              have F7 := Lib.hid (F6.out.call hb6)
              clear hb6 F6 v0 v1 v2
              go_wp2_with fail
              go_roundw
              case rel => exact ⟨k + 1, NX, by go_num, F7.out.tail.tail⟩
              case measure => simp [intOf]; omega
            | true =>
              cases hc : s.c.ok with
              | false =>
                rw [hv] at HPV
                rw [hc] at HPC
                rw [hc, Bool.and_false, if_neg (by simp)] at hnn her
                subst hnn
                subst her
                simp only [if_true, Bool.false_eq_true, if_false, reduceCtorEq] at HPV HPC
                clear hv hc
                go_wp2_with fail
                refine (HP.out _).mono ?_
                rintro e w5 ⟨rfl, hb5⟩
                have F6 := Lib.hid (F2.out.call hb5)
                clear hb5 F2 v0 v1 v2 y0 y1 y2
                obtain ⟨v0, v1, v2⟩ := F6.out.at1.three
                go_wp2_with fail
                refine (HPV.out _).mono ?_
                rintro e w6 ⟨rfl, hb6⟩
                have F7 := Lib.hid (F6.out.call hb6)
                clear hb6 F6 v0 v1 v2
                obtain ⟨y0, y1, y2⟩ := F7.out.top.three
                go_wp2_with fail
                refine (HPC.out _).mono ?_
                rintro e w7 ⟨rfl, hb7⟩
                have F8 := Lib.hid (F7.out.call hb7)
                clear hb7 F7 y0 y1 y2
                go_wp2_with fail
                go_roundw
                case rel => exact ⟨k + 1, NX, by go_num, F8.out.tail.tail⟩
                case measure => simp [intOf]; omega
              | true =>
                have HRP := Lib.hid (refPowerOf_any s.v s.c hv hc)
                have HVO := Lib.hid (VectorOf_ok s.v.x s.v.y s.v.z hv)
                have HCO := Lib.hid (VectorOf_ok s.c.x s.c.y s.c.z hc)
                have p3 := pw_in hv hc
                obtain ⟨⟨a0, a1⟩, ⟨a2, a3⟩, a4, a5⟩ := Ph.ok_iff.1 hv
                obtain ⟨⟨q0, q1⟩, ⟨q2, q3⟩, q4, q5⟩ := Ph.ok_iff.1 hc
                have HTH := Lib.hid (pw_three s.v s.c)
                rw [hv, hc] at hnn her
                rw [hv] at HPV
                rw [hc] at HPC
                simp only [Bool.and_self, if_true] at hnn her HPV HPC
                subst her
                rw [hnn] at HRP HTH p3
                have hcj := mul_in (v := ⟨s.v.x - s.v.z, s.v.y - s.v.z⟩) (u := (T3.mk (s.c.x - s.c.z) (s.c.y - s.c.z)).conj) (A := 200000) (B := 400000) (by simp only; omega) (by simp only [T3.conj]; omega)
                have HCJ := Lib.hid (TConj_any ⟨s.c.x - s.c.z, s.c.y - s.c.z⟩ ⟨by simp only; omega, by simp only; omega, by simp only; omega, by simp only; omega⟩)
                have HMU := Lib.hid (TMul_any ⟨s.v.x - s.v.z, s.v.y - s.v.z⟩ (T3.mk (s.c.x - s.c.z) (s.c.y - s.c.z)).conj ⟨by simp only; omega, by simp only; omega, by simp only; omega, by simp only; omega⟩ ⟨by simp only [T3.conj]; omega, by simp only [T3.conj]; omega, by simp only [T3.conj]; omega, by simp only [T3.conj]; omega⟩)
                clear hv hc hnn
                go_wp2_with fail
                refine (HP.out _).mono ?_
                rintro e w5 ⟨rfl, hb5⟩
                have F6 := Lib.hid (F2.out.call hb5)
                clear hb5 F2 v0 v1 v2 y0 y1 y2
                obtain ⟨v0, v1, v2⟩ := F6.out.at1.three
                go_wp2_with fail
                refine (HPV.out _).mono ?_
                rintro e w6 ⟨rfl, hb6⟩
                have F7 := Lib.hid (F6.out.call hb6)
                clear hb6 F6 v0 v1 v2
                obtain ⟨y0, y1, y2⟩ := F7.out.top.three
                go_wp2_with fail
                refine (HPC.out _).mono ?_
                rintro e w6' ⟨rfl, hb6⟩
                have F8 := Lib.hid (F7.out.call hb6)
                clear hb6 F7 y0 y1 y2
                obtain ⟨v0, v1, v2⟩ := F8.out.at1.three
                obtain ⟨y0, y1, y2⟩ := F8.out.top.three
                go_wp2_with fail
                refine (HRP.out _).mono ?_
                rintro e w6'' ⟨rfl, hb6⟩
                have F9 := Lib.hid (F8.out.call hb6)
                clear hb6 F8 v0 v1 v2 y0 y1 y2
                obtain ⟨v0, v1, v2⟩ := F9.out.at1.three
                obtain ⟨y0, y1, y2⟩ := F9.out.top.three
                obtain ⟨sm, hsm⟩ : ∃ n, s.c.x + s.c.y + s.c.z = n := ⟨_, rfl⟩
                have HSM := Lib.hid hsm
                by_cases h0 : sm = 0
                · subst h0
                  have hth := HTH.out HSM.out
                  generalize (((T3.mk (s.v.x - s.v.z) (s.v.y - s.v.z)).mul (T3.mk (s.c.x - s.c.z) (s.c.y - s.c.z)).conj)).a = za at *
                  generalize (((T3.mk (s.v.x - s.v.z) (s.v.y - s.v.z)).mul (T3.mk (s.c.x - s.c.z) (s.c.y - s.c.z)).conj)).b = zb at *
                  generalize (T3.mk (s.c.x - s.c.z) (s.c.y - s.c.z)).conj.a = ja at *
                  generalize (T3.mk (s.c.x - s.c.z) (s.c.y - s.c.z)).conj.b = jb at *
                  (try simp only at HCJ HMU)
                  have HH3 := Lib.hid hth
                  obtain ⟨⟨z0, z1⟩, z2, z3⟩ := hcj
                  clear hth HTH
                  go_wp2_with fail
                  clear hsm
                  refine (HVO.out _).mono ?_
                  rintro e w7 ⟨rfl, hb7⟩
                  have F10 := Lib.hid (((F9.out.call hb7).box 24 #[.int .i64 (s.v.x - s.v.z), .int .i64 (s.v.y - s.v.z)]))
                  have zz := (F9.out.call hb7).top.lt
                  clear hb7 F9 v0 v1 v2 y0 y1 y2
                  obtain ⟨y0, y1, y2⟩ := F10.out.at1.three
                  go_wp2_with fail
                  refine (HCO.out _).mono ?_
                  rintro e w8 ⟨rfl, hb8⟩
                  have F11 : Hid (Fr w _ [(w8.heap.size, 24, #[.int .i64 (s.c.x - s.c.z), .int .i64 (s.c.y - s.c.z)]), (w7.heap.size, 24, #[.int .i64 (s.v.x - s.v.z), .int .i64 (s.v.y - s.v.z)])]) := Lib.hid (by have h := ((F10.out.call hb8).box 24 #[.int .i64 (s.c.x - s.c.z), .int .i64 (s.c.y - s.c.z)]); exact ⟨h.bl, fun b hb => h.bk b (by simp only [List.mem_cons, List.not_mem_nil, or_false] at hb ⊢; rcases hb with rfl | rfl <;> simp)⟩)
                  have zz2 := (F10.out.call hb8).top.lt
                  clear hb8 F10 y0 y1 y2 zz
                  go_upto_region 24 with fail
                  go_cut [15] from 149 to 152 (fun r W => ∃ q, r = .pointer (some ⟨q, 0, none⟩) ∧ Fr w W ((q, 24, #[.int .i64 za, .int .i64 zb]) :: [(w8.heap.size, 24, #[.int .i64 (s.c.x - s.c.z), .int .i64 (s.c.y - s.c.z)]), (w7.heap.size, 24, #[.int .i64 (s.v.x - s.v.z), .int .i64 (s.v.y - s.v.z)])]))
                  case first =>
                    have HALL : Hid (∀ W, Fr w W [(w8.heap.size, 24, #[.int .i64 (s.c.x - s.c.z), .int .i64 (s.c.y - s.c.z)]), (w7.heap.size, 24, #[.int .i64 (s.v.x - s.v.z), .int .i64 (s.v.y - s.v.z)])] → Fr w W [(w8.heap.size, 24, #[.int .i64 (s.c.x - s.c.z), .int .i64 (s.c.y - s.c.z)]), (w7.heap.size, 24, #[.int .i64 (s.v.x - s.v.z), .int .i64 (s.v.y - s.v.z)])] ∧ W.cell? ⟨w7.heap.size, 0, none⟩ = some (.int .i64 (s.v.x - s.v.z)) ∧ W.cell? ⟨w7.heap.size, 1, none⟩ = some (.int .i64 (s.v.y - s.v.z)) ∧ W.cell? ⟨w8.heap.size, 0, none⟩ = some (.int .i64 (s.c.x - s.c.z)) ∧ W.cell? ⟨w8.heap.size, 1, none⟩ = some (.int .i64 (s.c.y - s.c.z))) := Lib.hid (fun W hW => ⟨hW, hW.at1.cell 0, hW.at1.cell 1, hW.top.cell 0, hW.top.cell 1⟩)
                    have F12 : Fr w _ [(w8.heap.size, 24, #[.int .i64 (s.c.x - s.c.z), .int .i64 (s.c.y - s.c.z)]), (w7.heap.size, 24, #[.int .i64 (s.v.x - s.v.z), .int .i64 (s.v.y - s.v.z)])] := F11.out
                    have u0 := F11.out.at1.lt
                    have u1 := F11.out.top.lt
                    have u2 := F11.out.size
                    simp only [World.size_alloc] at u0 u1 u2
                    clear F11
                    refine Tw_start 5 (fun W => Fr w W [(w8.heap.size, 24, #[.int .i64 (s.c.x - s.c.z), .int .i64 (s.c.y - s.c.z)]), (w7.heap.size, 24, #[.int .i64 (s.v.x - s.v.z), .int .i64 (s.v.y - s.v.z)])] ∧ W.cell? ⟨w7.heap.size, 0, none⟩ = some (.int .i64 (s.v.x - s.v.z)) ∧ W.cell? ⟨w7.heap.size, 1, none⟩ = some (.int .i64 (s.v.y - s.v.z)) ∧ W.cell? ⟨w8.heap.size, 0, none⟩ = some (.int .i64 (s.c.x - s.c.z)) ∧ W.cell? ⟨w8.heap.size, 1, none⟩ = some (.int .i64 (s.c.y - s.c.z))) (by kernel_rfl) (by kernel_rfl) rfl ?_ ?_
                    · (try dsimp only)
                      ((go_split_ands; refine HALL.out _ ?_; (first | assumption | (repeat (first | assumption | refine Fr.new ?_ _ | refine Fr.drew ?_ | (refine Fr.set ?_ (by first | exact Nat.le_refl _ | omega | (simp; done) | (simp; omega)) (by first | (simp; done) | (simp; omega)) _))); done)))
                    refine Tw_takeL (i := 0) (v := ?tv45) rfl (by kernel_rfl) (by decide) (by kernel_rfl) (by kernel_rfl) (fun _ _ _ h => h) (by rfl) ?ty45 ?tn45
                    case ty45 => (intro w hSw; (try dsimp only at hSw); go_simp <;> with_reducible rfl)
                    (try simp only [Act.put, List.setIfInBounds_toArray, List.set_cons_zero, List.set_cons_succ])
                    refine Tw_takeL (i := 1) (v := ?tv46) rfl (by kernel_rfl) (by decide) (by kernel_rfl) (by kernel_rfl) (fun _ _ _ h => h) (by rfl) ?ty46 ?tn46
                    case ty46 => (intro w hSw; (try dsimp only at hSw); go_simp <;> with_reducible rfl)
                    (try simp only [Act.put, List.setIfInBounds_toArray, List.set_cons_zero, List.set_cons_succ])
                    refine Tw_all (rs := [2, 4]) (by kernel_rfl) (by simp) (by decide) (fun hHeld => ?_)
                    refine AllT.consL rfl (fun K hK => ?_) (AllT.consL rfl (fun K hK => ?_) (AllT.nil))
                    · go_simp
                      (go_at_call 44; go_split_ands; (with_reducible refine (HCJ.out _).mono ?_); rintro e w9 ⟨rfl, hb9⟩; have F9 := Fr.call (by assumption) hb9; have uy := F9.size; have uy1 := F9.at1.lt; have uy2 := F9.top.lt; (first | (have NA := Lib.hid (Bk.call NA.out hb9)) | skip); have uz := hb9.size; clear hb9)
                      refine hK.out _ _ ?_ ?_
                      · (try dsimp only)
                        ((go_split_ands; refine HALL.out _ ?_; (first | assumption | (repeat (first | assumption | refine Fr.new ?_ _ | refine Fr.drew ?_ | (refine Fr.set ?_ (by first | exact Nat.le_refl _ | omega | (simp; done) | (simp; omega)) (by first | (simp; done) | (simp; omega)) _))); done)))
                      clear hK K
                      (try simp only [Act.put, List.setIfInBounds_toArray, List.set_cons_zero, List.set_cons_succ])
                      refine Tw_all (rs := [3, 4]) (by kernel_rfl) (by simp) (by decide) (fun hHeld => ?_)
                      refine AllT.consL rfl (fun K hK => ?_) (AllT.consL rfl (fun K hK => ?_) (AllT.nil))
                      · go_simp
                        (go_at_call 43; go_split_ands; (with_reducible refine (HMU.out _).mono ?_); rintro e w9 ⟨rfl, hb9⟩; have F9 := Fr.call (by assumption) hb9; have uy := F9.size; have uy1 := F9.at1.lt; have uy2 := F9.top.lt; (first | (have NA := Lib.hid (Bk.call NA.out hb9)) | skip); have uz := hb9.size; clear hb9)
                        refine hK.out _ _ ?_ ?_
                        · (try dsimp only)
                          ((go_split_ands; refine HALL.out _ ?_; (first | assumption | (repeat (first | assumption | refine Fr.new ?_ _ | refine Fr.drew ?_ | (refine Fr.set ?_ (by first | exact Nat.le_refl _ | omega | (simp; done) | (simp; omega)) (by first | (simp; done) | (simp; omega)) _))); done)))
                        clear hK K
                        (try simp only [Act.put, List.setIfInBounds_toArray, List.set_cons_zero, List.set_cons_succ])
                        refine Tw_all (rs := [4]) (by kernel_rfl) (by simp) (by decide) (fun hHeld => ?_)
                        refine AllT.consL rfl (fun K hK => ?_) (AllT.nil)
                        · go_simp
                          refine hK.out _ _ ?_ ?_
                          · (try dsimp only)
                            ((go_split_ands; refine HALL.out _ ?_; (first | assumption | (repeat (first | assumption | refine Fr.new ?_ _ | refine Fr.drew ?_ | (refine Fr.set ?_ (by first | exact Nat.le_refl _ | omega | (simp; done) | (simp; omega)) (by first | (simp; done) | (simp; omega)) _))); done)))
                          clear hK K
                          (try simp only [Act.put, List.setIfInBounds_toArray, List.set_cons_zero, List.set_cons_succ])
                          refine Tw_abs ?_
                          intro wA7 hA7
                          (first | (have NA := Lib.hid (Bk.of_alloc hA7)) | (have NA := Lib.hid (Bk.of_alloc_drew hA7)))
                          (try rw [World.size_alloc] at NA)
                          have uz2 := NA.out.lt
                          clear hA7
                          refine Tw_end (by kernel_rfl) (fun hh => ?_)
                          obtain ⟨F15, _⟩ := hh
                          clear HALL
                          have n0 := NA.out.cell 0
                          have n1 := NA.out.cell 1
                          have g0 := NA.out.frozen 0
                          have g1 := NA.out.frozen 1
                          go_wp2_with fail
                          go_meet
                          refine ⟨_, rfl, ?_⟩
                          have h := ((F15.more NA.out).put 0 (.int .i64 za) (by first | omega | (simp; omega) | (simp; done)) (by first | omega | (simp; omega) | (simp; done))).put 1 (.int .i64 zb) (by first | omega | (simp; omega) | (simp; done)) (by first | omega | (simp; omega) | (simp; done))
                          first | exact h | exact h.drew | simpa using h | simpa using h.drew
                      · go_simp
                        refine hK.out _ _ ?_ ?_
                        · (try dsimp only)
                          ((go_split_ands; refine HALL.out _ ?_; (first | assumption | (repeat (first | assumption | refine Fr.new ?_ _ | refine Fr.drew ?_ | (refine Fr.set ?_ (by first | exact Nat.le_refl _ | omega | (simp; done) | (simp; omega)) (by first | (simp; done) | (simp; omega)) _))); done)))
                        clear hK K
                        (try simp only [Act.put, List.setIfInBounds_toArray, List.set_cons_zero, List.set_cons_succ])
                        refine Tw_abs ?_
                        intro wA8 hA8
                        (first | (have NA := Lib.hid (Bk.of_alloc hA8)) | (have NA := Lib.hid (Bk.of_alloc_drew hA8)))
                        (try rw [World.size_alloc] at NA)
                        have uz2 := NA.out.lt
                        clear hA8
                        refine Tw_all (rs := [3]) (by kernel_rfl) (by simp) (by decide) (fun hHeld => ?_)
                        refine AllT.consL rfl (fun K hK => ?_) (AllT.nil)
                        · go_simp
                          (go_at_call 43; go_split_ands; (with_reducible refine (HMU.out _).mono ?_); rintro e w9 ⟨rfl, hb9⟩; have F9 := Fr.call (by assumption) hb9; have uy := F9.size; have uy1 := F9.at1.lt; have uy2 := F9.top.lt; (first | (have NA := Lib.hid (Bk.call NA.out hb9)) | skip); have uz := hb9.size; clear hb9)
                          refine hK.out _ _ ?_ ?_
                          · (try dsimp only)
                            ((go_split_ands; refine HALL.out _ ?_; (first | assumption | (repeat (first | assumption | refine Fr.new ?_ _ | refine Fr.drew ?_ | (refine Fr.set ?_ (by first | exact Nat.le_refl _ | omega | (simp; done) | (simp; omega)) (by first | (simp; done) | (simp; omega)) _))); done)))
                          clear hK K
                          (try simp only [Act.put, List.setIfInBounds_toArray, List.set_cons_zero, List.set_cons_succ])
                          refine Tw_end (by kernel_rfl) (fun hh => ?_)
                          obtain ⟨F15, _⟩ := hh
                          clear HALL
                          have n0 := NA.out.cell 0
                          have n1 := NA.out.cell 1
                          have g0 := NA.out.frozen 0
                          have g1 := NA.out.frozen 1
                          go_wp2_with fail
                          go_meet
                          refine ⟨_, rfl, ?_⟩
                          have h := ((F15.more NA.out).put 0 (.int .i64 za) (by first | omega | (simp; omega) | (simp; done)) (by first | omega | (simp; omega) | (simp; done))).put 1 (.int .i64 zb) (by first | omega | (simp; omega) | (simp; done)) (by first | omega | (simp; omega) | (simp; done))
                          first | exact h | exact h.drew | simpa using h | simpa using h.drew
                    · go_simp
                      refine hK.out _ _ ?_ ?_
                      · (try dsimp only)
                        ((go_split_ands; refine HALL.out _ ?_; (first | assumption | (repeat (first | assumption | refine Fr.new ?_ _ | refine Fr.drew ?_ | (refine Fr.set ?_ (by first | exact Nat.le_refl _ | omega | (simp; done) | (simp; omega)) (by first | (simp; done) | (simp; omega)) _))); done)))
                      clear hK K
                      (try simp only [Act.put, List.setIfInBounds_toArray, List.set_cons_zero, List.set_cons_succ])
                      refine Tw_abs ?_
                      intro wA10 hA10
                      (first | (have NA := Lib.hid (Bk.of_alloc hA10)) | (have NA := Lib.hid (Bk.of_alloc_drew hA10)))
                      (try rw [World.size_alloc] at NA)
                      have uz2 := NA.out.lt
                      clear hA10
                      refine Tw_all (rs := [2]) (by kernel_rfl) (by simp) (by decide) (fun hHeld => ?_)
                      refine AllT.consL rfl (fun K hK => ?_) (AllT.nil)
                      · go_simp
                        (go_at_call 44; go_split_ands; (with_reducible refine (HCJ.out _).mono ?_); rintro e w9 ⟨rfl, hb9⟩; have F9 := Fr.call (by assumption) hb9; have uy := F9.size; have uy1 := F9.at1.lt; have uy2 := F9.top.lt; (first | (have NA := Lib.hid (Bk.call NA.out hb9)) | skip); have uz := hb9.size; clear hb9)
                        refine hK.out _ _ ?_ ?_
                        · (try dsimp only)
                          ((go_split_ands; refine HALL.out _ ?_; (first | assumption | (repeat (first | assumption | refine Fr.new ?_ _ | refine Fr.drew ?_ | (refine Fr.set ?_ (by first | exact Nat.le_refl _ | omega | (simp; done) | (simp; omega)) (by first | (simp; done) | (simp; omega)) _))); done)))
                        clear hK K
                        (try simp only [Act.put, List.setIfInBounds_toArray, List.set_cons_zero, List.set_cons_succ])
                        refine Tw_all (rs := [3]) (by kernel_rfl) (by simp) (by decide) (fun hHeld => ?_)
                        refine AllT.consL rfl (fun K hK => ?_) (AllT.nil)
                        · go_simp
                          (go_at_call 43; go_split_ands; (with_reducible refine (HMU.out _).mono ?_); rintro e w9 ⟨rfl, hb9⟩; have F9 := Fr.call (by assumption) hb9; have uy := F9.size; have uy1 := F9.at1.lt; have uy2 := F9.top.lt; (first | (have NA := Lib.hid (Bk.call NA.out hb9)) | skip); have uz := hb9.size; clear hb9)
                          refine hK.out _ _ ?_ ?_
                          · (try dsimp only)
                            ((go_split_ands; refine HALL.out _ ?_; (first | assumption | (repeat (first | assumption | refine Fr.new ?_ _ | refine Fr.drew ?_ | (refine Fr.set ?_ (by first | exact Nat.le_refl _ | omega | (simp; done) | (simp; omega)) (by first | (simp; done) | (simp; omega)) _))); done)))
                          clear hK K
                          (try simp only [Act.put, List.setIfInBounds_toArray, List.set_cons_zero, List.set_cons_succ])
                          refine Tw_end (by kernel_rfl) (fun hh => ?_)
                          obtain ⟨F15, _⟩ := hh
                          clear HALL
                          have n0 := NA.out.cell 0
                          have n1 := NA.out.cell 1
                          have g0 := NA.out.frozen 0
                          have g1 := NA.out.frozen 1
                          go_wp2_with fail
                          go_meet
                          refine ⟨_, rfl, ?_⟩
                          have h := ((F15.more NA.out).put 0 (.int .i64 za) (by first | omega | (simp; omega) | (simp; done)) (by first | omega | (simp; omega) | (simp; done))).put 1 (.int .i64 zb) (by first | omega | (simp; omega) | (simp; done)) (by first | omega | (simp; omega) | (simp; done))
                          first | exact h | exact h.drew | simpa using h | simpa using h.drew
                  case rest =>
                  obtain ⟨wz, rfl⟩ : ∃ W, W = wc := ⟨_, rfl⟩
                  obtain ⟨q, rfl, hx⟩ := hcut
                  have F14 := Lib.hid hx
                  clear hx F11
                  obtain ⟨y0, y1, _, _⟩ := F14.out.top.two
                  have hth := HH3.out
                  have zs := F14.out.size
                  have hw1 : IntKind.i64.wrap (3 * nn) = 2 * za - zb := by rw [← hth]; exact IntWalk.i64_in _ ⟨by omega, by omega⟩
                  clear hth
                  go_wp2_with fail
                  clear hw1
                  go_roundw
                  case rel => exact ⟨k + 1, NX, by go_num, F14.out.tail.tail.tail⟩
                  case measure => simp [intOf]; omega
                · have gn : (sm != 0) = true := by simp [h0]
                  clear hcj HTH
                  go_wp2_with fail
                  clear hsm gn
                  go_roundw
                  case rel => exact ⟨k + 1, NX, by go_num, F9.out.tail.tail⟩
                  case measure => simp [intOf]; omega
        · have h20' : ¬ (k : Int) < 20 := by omega
          go_wp2_with fail
          go_ret
          exact ⟨rfl, FK.out.bl⟩
      · obtain rfl : k = l.length := by omega
        go_wp2_with fail
        go_ret
        exact ⟨rfl, FK.out.bl⟩

set_option maxHeartbeats 8000000 in
set_option maxRecDepth 100000 in
theorem StatorBooks_any (l : List Stp) (g : Hd) (hg : HdOk g) (hm : l.length ≤ maxLen) (w : World) (hT : Tab w) (hA : Lies w w.heap.size g.A (l.flatMap stc)) : Calls Tryd.prog 6 #[.slice g.A l.length g.c] w fun e w' => e = .returned (.bool true) ∧ Below w.heap.size w w' := by
  by_cases h1 : l.length ≤ 20
  · exact books_in l g hg (.inl h1) w hT hA
  · by_cases h2 : l.length ≤ 60
    · exact books_out1 l g (by omega) h2 w hT
    · by_cases h3 : l.length ≤ 62
      · exact books_in l g hg (.inr ⟨by omega, h3⟩) w hT hA
      · exact books_out2 l g (by omega) hm w hT
end Go.Proofs.YtohldmmfnjfgmaaDoor
