
/-
  The walk of StatorStates.
-/
import Derived.Test.YtohldmmfnjfgmaaDoorTStC
import Derived.Test.YtohldmmfnjfgmaaDoorTAwk
namespace Go.Proofs.YtohldmmfnjfgmaaDoor
open Go.RowKit

set_option maxHeartbeats 8000000 in
set_option maxRecDepth 100000 in
theorem states_out1 (n M : Int) (ws : List T3) (g : Hd) (h1 : 20 < ws.length) (h2 : ws.length ≤ 60) (w : World) (hT : Tab w) : Calls Tryd.prog 5 #[.int .i64 n, .int .i64 M, .slice g.A ws.length g.c] w fun e w' => e = .returned (.bool true) ∧ Below w.heap.size w w' := by
  have g1 : (20 : Int) < (ws.length : Int) := by omega
  have g2 : (ws.length : Int) ≤ 60 := by omega
  clear h1 h2
  go_enter Tryd.func5, Tryd.ntmps5
  go_wp2_with fail
  refine (awake_any _ hT).mono ?_
  rintro e w1 ⟨rfl, hb1⟩
  go_wp2_with fail
  go_ret
  exact ⟨rfl, hb1⟩

set_option maxHeartbeats 8000000 in
set_option maxRecDepth 100000 in
theorem states_out2 (n M : Int) (ws : List T3) (g : Hd) (h1 : 62 < ws.length) (h2 : ws.length ≤ maxLen) (w : World) (hT : Tab w) : Calls Tryd.prog 5 #[.int .i64 n, .int .i64 M, .slice g.A ws.length g.c] w fun e w' => e = .returned (.bool true) ∧ Below w.heap.size w w' := by
  unfold maxLen at h2
  have g1 : (20 : Int) < (ws.length : Int) := by omega
  have g2 : ¬ (ws.length : Int) ≤ 60 := by omega
  have g3 : (62 : Int) < (ws.length : Int) := by omega
  clear h1 h2
  go_enter Tryd.func5, Tryd.ntmps5
  go_wp2_with fail
  refine (awake_any _ hT).mono ?_
  rintro e w1 ⟨rfl, hb1⟩
  go_wp2_with fail
  go_ret
  exact ⟨rfl, hb1⟩

set_option maxHeartbeats 8000000 in
set_option maxRecDepth 100000 in
theorem states_in (n M : Int) (ws : List T3) (g : Hd) (hg : HdOk g) (h1 : ws.length ≤ 20 ∨ (60 < ws.length ∧ ws.length ≤ 62)) (w : World) (hT : Tab w) (hA : Lies w w.heap.size g.A (ws.flatMap tc)) : Calls Tryd.prog 5 #[.int .i64 n, .int .i64 M, .slice g.A ws.length g.c] w fun e w' => e = .returned (.bool true) ∧ Below w.heap.size w w' := by
  obtain ⟨b, v, er, hb, hsv, hkv⟩ := state_known n
  have KV := Lib.hid hkv
  have HSV := Lib.hid hsv
  have HB := Lib.hid hb
  have KM := Lib.hid (mod_known M ws h1)
  have hl62 : ws.length ≤ 62 := by omega
  have gl2 : (ws.length : Int) ≤ 62 := by omega
  have TW := Lib.hid hT
  have HA := Lib.hid hA
  have HG := Lib.hid hg
  clear hkv hsv hb hT hA hg
  go_enter Tryd.func5, Tryd.ntmps5
  go_wp2_with fail
  refine (awake_any _ TW.out).mono ?_
  rintro e w1 ⟨rfl, hb1⟩
  have F1 := Lib.hid (Fr.call (Fr.nil w) hb1)
  clear hb1
  go_upto_region 3 with fail
  go_cut [32] from 20 to 32 (fun r W => r = .bool false ∧ Fr w W [])
  case first =>
    rcases h1 with h | ⟨h, h'⟩
    · have e1 : ¬ (20 : Int) < (ws.length : Int) := by omega
      have e2 : ¬ (62 : Int) < (ws.length : Int) := by omega
      go_wp2_with fail
      go_meet
      exact ⟨rfl, F1.out⟩
    · have e1 : (20 : Int) < (ws.length : Int) := by omega
      have e2 : ¬ (ws.length : Int) ≤ 60 := by omega
      have e3 : ¬ (62 : Int) < (ws.length : Int) := by omega
      go_wp2_with fail
      go_meet
      exact ⟨rfl, F1.out⟩
  case rest =>
  obtain ⟨wx, rfl⟩ : ∃ W, W = wc := ⟨_, rfl⟩
  obtain ⟨rfl, hx⟩ := hcut
  clear F1
  have F1 := Lib.hid hx
  clear hx h1
  go_wp2_with fail
  refine (HSV.out _ (TW.out.call F1.out.bl)).mono ?_
  rintro e w2 ⟨rfl, hb2⟩
  have F2 : Hid (Fr w _ [(w2.heap.size, 24, #[.int .i64 v.a, .int .i64 v.b])]) := Lib.hid ((F1.out.call hb2).box 24 #[.int .i64 v.a, .int .i64 v.b])
  clear hb2 F1 HSV
  go_upto_if 40 with (go_at_call 21; refine (IsState_any _ _).mono ?_; rintro e w' ⟨rfl, rfl⟩; rw [HB.out])
  go_cut [6] from 41 to 55 (fun r W => r = .bool false ∧ Fr w W [(w2.heap.size, 24, #[.int .i64 v.a, .int .i64 v.b])])
  case first =>
    rcases KV.out with ⟨rfl, hva, hvb, rfl⟩ | ⟨rfl, rfl, hrv⟩
    · rw [hva, hvb] at F2
      have hvx : v = ⟨0, 0⟩ := T3.eq hva hvb
      subst hvx
      obtain ⟨c0, c1, _, _⟩ := F2.out.top.two
      clear hva hvb KV
      go_wp2_with fail
      go_meet
      exact ⟨rfl, F2.out⟩
    · have HRV := Lib.hid hrv
      clear hrv KV
      go_upto_region 9 with fail
      have HALL : Hid (∀ W, Fr w W [(w2.heap.size, 24, #[.int .i64 v.a, .int .i64 v.b])] → Fr w W [(w2.heap.size, 24, #[.int .i64 v.a, .int .i64 v.b])] ∧ W.cell? ⟨w2.heap.size, 0, none⟩ = some (.int .i64 v.a) ∧ W.cell? ⟨w2.heap.size, 1, none⟩ = some (.int .i64 v.b)) := Lib.hid (fun W hW => ⟨hW, hW.top.cell 0, hW.top.cell 1⟩)
      have F10 : Fr w _ [(w2.heap.size, 24, #[.int .i64 v.a, .int .i64 v.b])] := F2.out
      clear F2
      refine Tw_start 7 (fun W => Fr w W [(w2.heap.size, 24, #[.int .i64 v.a, .int .i64 v.b])] ∧ W.cell? ⟨w2.heap.size, 0, none⟩ = some (.int .i64 v.a) ∧ W.cell? ⟨w2.heap.size, 1, none⟩ = some (.int .i64 v.b)) (by kernel_rfl) (by kernel_rfl) rfl ?_ ?_
      · (try dsimp only)
        ((go_split_ands; refine HALL.out _ ?_; (first | assumption | (repeat (first | assumption | refine Fr.new ?_ _ | refine Fr.drew ?_ | (refine Fr.set ?_ (by first | exact Nat.le_refl _ | omega | (simp; done) | (simp; omega)) (by first | (simp; done) | (simp; omega)) _))); done)))
      refine Tw_takeL (i := 0) (v := ?tv1) rfl (by kernel_rfl) (by decide) (by kernel_rfl) (by kernel_rfl) (fun _ _ _ h => h) (by rfl) ?ty1 ?tn1
      case ty1 => (intro w hSw; (try dsimp only at hSw); go_simp <;> with_reducible rfl)
      (try simp only [Act.put, List.setIfInBounds_toArray, List.set_cons_zero, List.set_cons_succ])
      refine Tw_takeL (i := 1) (v := ?tv2) rfl (by kernel_rfl) (by decide) (by kernel_rfl) (by kernel_rfl) (fun _ _ _ h => h) (by rfl) ?ty2 ?tn2
      case ty2 => (intro w hSw; (try dsimp only at hSw); go_simp <;> with_reducible rfl)
      (try simp only [Act.put, List.setIfInBounds_toArray, List.set_cons_zero, List.set_cons_succ])
      refine Tw_takeL (i := 2) (v := ?tv3) rfl (by kernel_rfl) (by decide) (by kernel_rfl) (by kernel_rfl) (fun _ _ _ h => h) (by rfl) ?ty3 ?tn3
      case ty3 => (intro w hSw; (try dsimp only at hSw); go_simp <;> with_reducible rfl)
      (try simp only [Act.put, List.setIfInBounds_toArray, List.set_cons_zero, List.set_cons_succ])
      refine Tw_takeL (i := 3) (v := ?tv4) rfl (by kernel_rfl) (by decide) (by kernel_rfl) (by kernel_rfl) (fun _ _ _ h => h) (by rfl) ?ty4 ?tn4
      case ty4 => (intro w hSw; (try dsimp only at hSw); go_simp <;> with_reducible rfl)
      (try simp only [Act.put, List.setIfInBounds_toArray, List.set_cons_zero, List.set_cons_succ])
      refine Tw_takeL (i := 4) (v := ?tv5) rfl (by kernel_rfl) (by decide) (by kernel_rfl) (by kernel_rfl) (fun _ _ _ h => h) (by rfl) ?ty5 ?tn5
      case ty5 => (intro w hSw; (try dsimp only at hSw); go_simp <;> with_reducible rfl)
      (try simp only [Act.put, List.setIfInBounds_toArray, List.set_cons_zero, List.set_cons_succ])
      refine Tw_all (rs := [5]) (by kernel_rfl) (by simp) (by decide) (fun hHeld => ?_)
      refine AllT.consL rfl (fun K hK => ?_) AllT.nil
      go_simp
      (go_at_call 22; go_split_ands; (with_reducible refine (HRV.out _).mono ?_); rintro e w7 ⟨rfl, hb7⟩; have F4 := Fr.call (by assumption) hb7; clear hb7)
      refine hK.out _ _ ?_ ?_
      · (try dsimp only)
        ((go_split_ands; refine HALL.out _ ?_; (first | assumption | (repeat (first | assumption | refine Fr.new ?_ _ | refine Fr.drew ?_ | (refine Fr.set ?_ (by first | exact Nat.le_refl _ | omega | (simp; done) | (simp; omega)) (by first | (simp; done) | (simp; omega)) _))); done)))
      clear hK K
      (try simp only [Act.put, List.setIfInBounds_toArray, List.set_cons_zero, List.set_cons_succ])
      refine Tw_takeL (i := 6) (v := ?tv6) rfl (by kernel_rfl) (by decide) (by kernel_rfl) (by kernel_rfl) (fun _ _ _ h => h) (by rfl) ?ty6 ?tn6
      case ty6 => (intro w hSw; (try dsimp only at hSw); go_simp <;> with_reducible rfl)
      (try simp only [Act.put, List.setIfInBounds_toArray, List.set_cons_zero, List.set_cons_succ])
      refine Tw_end (by kernel_rfl) (fun hh => ?_)
      obtain ⟨F14, _⟩ := hh
      clear HALL
      go_wp2_with fail
      go_meet
      exact ⟨rfl, F14⟩
  case rest =>
  obtain ⟨wy, rfl⟩ : ∃ W, W = wc := ⟨_, rfl⟩
  obtain ⟨rfl, hx⟩ := hcut
  have F3 := Lib.hid hx.tail
  clear hx F2 KV
  go_wp2_with fail
  go_loopw [9] (fun i wr => ∃ k : Nat, k ≤ ws.length ∧ i = .int .i64 k ∧ Fr w wr []) (fun i _ => ws.length - (intOf i).toNat)
  case atStart => exact ⟨0, Nat.zero_le _, rfl, F3.out⟩
  case round =>
    obtain ⟨k, hk, rfl, hfr⟩ := hrel
    have FK := Lib.hid hfr
    clear hfr F3
    by_cases hlt : k < ws.length
    · have hlt' : (k : Int) < (ws.length : Int) := by omega
      by_cases h3 : k < 3
      · have h3' : (k : Int) < 3 := by omega
        obtain ⟨x, hx⟩ : ∃ x, ws[k]? = some x := ⟨_, List.getElem?_eq_getElem hlt⟩
        obtain ⟨a, ea, hab, _, _⟩ := HA.out.third hx
        have HCX : Hid (∀ W, Fr w W [] → W.cell? (a.add (k * 2)) = some (.int .i64 x.a) ∧ W.cell? ⟨(a.add (k * 2)).block, (a.add (k * 2)).off + 1, none⟩ = some (.int .i64 x.b)) := Lib.hid (fun W hW => by
          obtain ⟨a', ea', _, c1, c2⟩ := (HA.out.below hW.bl).third hx
          rw [ea] at ea'; cases ea'
          exact ⟨c1, c2⟩)
        obtain ⟨GA, gc⟩ := g
        simp only at ea
        subst ea
        obtain ⟨nb, nn, en, ki, kn, kd⟩ := want_known M x
        have KI := Lib.hid ki
        have KN := Lib.hid kn
        have NX : k + 1 ≤ ws.length := by omega
        clear hx ki kn hab
        obtain ⟨ca, cb⟩ := HCX.out _ FK.out
        go_wp2_with fail
        refine (KI.out _).mono ?_
        rintro e w3 ⟨rfl, hb3⟩
        have F4 := Lib.hid (FK.out.call hb3)
        clear hb3 FK ca cb
        obtain ⟨ca, cb⟩ := HCX.out _ F4.out
        go_wp2_with fail
        refine (KN.out _ (TW.out.call F4.out.bl)).mono ?_
        rintro e w4 ⟨rfl, hb4⟩
        have F5 := Lib.hid (F4.out.call hb4)
        clear hb4 F4 ca cb KI KN
        obtain ⟨ca, cb⟩ := HCX.out _ F5.out
        rcases kd with ⟨rfl, rfl, rfl, hM | ⟨hM, hv⟩⟩ | ⟨rfl, hM, hv, hri, hrn⟩
        · have HS : Hid (∀ w, Calls Tryd.prog 25 #[.int .i64 M] w fun e w' => e = .returned (.int .i64 2) ∧ w = w') := Lib.hid (fun w => by have := ScaleErr_any M w; rw [if_neg (by rw [hM]; simp)] at this; exact this)
          clear hM
          go_wp2_with (go_at_call 25; refine (HS.out _).mono ?_; rintro e w' ⟨rfl, rfl⟩)
          go_roundw
          case rel => exact ⟨k + 1, NX, by go_num, F5.out⟩
          case measure => simp [intOf]; omega
        · have HS : Hid (∀ w, Calls Tryd.prog 25 #[.int .i64 M] w fun e w' => e = .returned (.int .i64 0) ∧ w = w') := Lib.hid (fun w => by have := ScaleErr_any M w; rw [if_pos hM] at this; exact this)
          have HV := Lib.hid (vE_bad hv)
          clear hM hv
          go_wp2_with (go_at_call 25; refine (HS.out _).mono ?_; rintro e w' ⟨rfl, rfl⟩)
          refine (VectorErr_any x _).mono ?_
          rintro e w5 ⟨rfl, hb5⟩
          rw [HV.out]
          have F6 := Lib.hid (F5.out.call hb5)
          clear hb5 F5 ca cb
          go_wp2_with fail
          go_roundw
          case rel => exact ⟨k + 1, NX, by go_num, F6.out⟩
          case measure => simp [intOf]; omega
        · have HS : Hid (∀ w, Calls Tryd.prog 25 #[.int .i64 M] w fun e w' => e = .returned (.int .i64 0) ∧ w = w') := Lib.hid (fun w => by have := ScaleErr_any M w; rw [if_pos hM] at this; exact this)
          have HV := Lib.hid (vE_ok hv)
          have HRI := Lib.hid hri
          have HRN := Lib.hid hrn
          clear hM hv hri hrn
          go_wp2_with (go_at_call 25; refine (HS.out _).mono ?_; rintro e w' ⟨rfl, rfl⟩)
          refine (VectorErr_any x _).mono ?_
          rintro e w5 ⟨rfl, hb5⟩
          rw [HV.out]
          have F6 := Lib.hid (F5.out.call hb5)
          clear hb5 F5 ca cb
          obtain ⟨ca, cb⟩ := HCX.out _ F6.out
          go_wp2_with fail
          refine (HRI.out _).mono ?_
          rintro e w6 ⟨rfl, hb6⟩
          have F7 := Lib.hid (F6.out.call hb6)
          clear hb6 F6 ca cb
          obtain ⟨ca, cb⟩ := HCX.out _ F7.out
          cases nb
          all_goals
            go_wp2_with fail
            refine (HRN.out _).mono ?_
            rintro e w7 ⟨rfl, hb7⟩
            have F8 := Lib.hid (F7.out.call hb7)
            clear hb7 F7 ca cb
            go_wp2_with fail
            go_roundw
            case rel => exact ⟨k + 1, NX, by go_num, F8.out⟩
            case measure => simp [intOf]; omega
      · have h3' : ¬ (k : Int) < 3 := by omega
        obtain ⟨GA, gc⟩ := g
        go_wp2_with fail
        refine (CopyVectors_any ws ⟨GA, gc⟩ (by omega) HG.out _ (Fr.lies HA.out FK.out)).mono ?_
        rintro e w3 ⟨g2, rfl, hl2, _, _, hb3⟩
        have F3 := Lib.hid (FK.out.call hb3)
        have HL2 := Lib.hid hl2
        clear hb3 hl2 FK
        rcases KM.out with ⟨d, hd, hmo, hwe⟩ | ⟨hM, hl, hx⟩
        · have HMO := Lib.hid hmo
          have HWE := Lib.hid hwe
          have gn : (d != 0) = true := by simp [hd]
          clear hd hmo hwe
          go_wp2_with fail
          refine (HMO.out _ _ _ (TW.out.call F3.out.bl) HL2.out).mono ?_
          rintro e w4 ⟨rfl, hb4⟩
          have F4 := Lib.hid ((F3.out.call hb4).box 56 #[.slice none 0 0, .slice none 0 0])
          clear hb4 F3 HL2
          go_wp2_with fail
          refine (HWE.out _ _ _ (Fr.lies HA.out F4.out)).mono ?_
          rintro e w5 ⟨rfl, hb5⟩
          have F5 := Lib.hid (F4.out.call hb5)
          clear hb5 F4
          obtain ⟨p0, p1, _, _⟩ := F5.out.top.two
          go_wp2_with fail
          go_ret
          exact ⟨rfl, F5.out.bl⟩
        · have hal : ws.all okT = true := List.all_eq_true.2 hx
          have HW : Hid (wntE M ws = 0) := Lib.hid (by unfold wntE; rw [if_pos hM]; exact vsE_yes hx)
          have HMD := Lib.hid (Modulated_any M hM ws)
          obtain ⟨m0, m1⟩ := inB_iff.1 hM
          have HRM := Lib.hid (refModulated_any M ⟨by omega, by omega⟩ ws)
          have HX := Lib.hid hx
          have HIN := Lib.hid (fun (w : World) (A B : Option Addr) (c d : Nat) (h1 : Lies w w.heap.size A (ic (stsV M ws))) (h2 : Lies w w.heap.size B (ic (stsV M ws))) => by have := Ints_same (stsV M ws) A B c d (by rw [stsV_len]; unfold maxLen; omega) w h1 h2; rwa [stsV_len] at this)
          have HSA := Lib.hid (fun (w : World) (A B : Option Addr) (c d : Nat) (h1 : Lies w w.heap.size A ((lftV M ws).flatMap tc)) (h2 : Lies w w.heap.size B ((lftV M ws).flatMap tc)) => by have := Same_same (lftV M ws) A B c d (by rw [lftV_len]; unfold maxLen; omega) w h1 h2; rwa [lftV_len] at this)
          clear hx hM m0 m1
          go_wp2_with fail
          refine (HMD.out _ _ (by omega) _ (TW.out.call F3.out.bl) HL2.out).mono ?_
          rintro e wm ⟨hp, hb4⟩
          have F4 := Lib.hid (F3.out.call hb4)
          rcases hp with ⟨_, A1, c1, A2, c2, rfl, hs, hlf⟩ | ⟨hno, _⟩
          · have LS := Lib.hid hs
            have LL := Lib.hid hlf
            have LW := Lib.hid (Fr.lies HA.out F4.out)
            have BW := Lib.hid F4.out.bl
            have FM : Hid (Fr wm _ [(wm.heap.size, 56, #[.slice A1 ws.length c1, .slice A2 ws.length c2])]) := Lib.hid ((Fr.nil wm).box 56 #[.slice A1 ws.length c1, .slice A2 ws.length c2])
            clear hs hlf hb4 F3 F4 HL2 hal
            go_wp2_with fail
            refine (WantsErr_any M ws _ _ hl _ (Fr.lies LW.out FM.out)).mono ?_
            rintro e w5 ⟨rfl, hb5⟩
            rw [HW.out]
            have F5 := Lib.hid (FM.out.call hb5)
            clear hb5 FM
            go_wp2_with fail
            refine (HRM.out _ _ (by omega) HX.out _ (Fr.lies LW.out F5.out)).mono ?_
            rintro e w6 ⟨A3, c3, A4, c4, rfl, hs3, hs4, hb6⟩
            have F6 : Hid (Fr wm _ [(w6.heap.size, 56, #[.slice A3 ws.length c3, .slice A4 ws.length c4]), (wm.heap.size, 56, #[.slice A1 ws.length c1, .slice A2 ws.length c2])]) := Lib.hid ((F5.out.call hb6).box 56 #[.slice A3 ws.length c3, .slice A4 ws.length c4])
            have L3 := Lib.hid (Lies.new hs3 (.cells #[.slice A3 ws.length c3, .slice A4 ws.length c4] 56))
            have L4 := Lib.hid (Lies.new hs4 (.cells #[.slice A3 ws.length c3, .slice A4 ws.length c4] 56))
            have zz := (F5.out.call hb6).top.lt
            obtain ⟨q0, q1, _, _⟩ := (F5.out.call hb6).top.two
            clear hb6 F5 hs3 hs4
            go_wp2_with fail
            refine (HIN.out _ _ _ _ _ (Fr.lies LS.out F6.out) L3.out).mono ?_
            rintro e w7 ⟨rfl, hb7⟩
            have F7 := Lib.hid (F6.out.call hb7)
            have L5 := Lib.hid (Lies.call L4.out hb7)
            clear hb7 F6 q0 q1 L3 L4 zz
            obtain ⟨p0, p1, _, _⟩ := F7.out.top.two
            obtain ⟨q0, q1, _, _⟩ := F7.out.at1.two
            go_wp2_with fail
            refine (HSA.out _ _ _ _ _ (Fr.lies LL.out F7.out) L5.out).mono ?_
            rintro e w8 ⟨rfl, hb8⟩
            have F8 := Lib.hid (F7.out.call hb8)
            clear hb8 F7 p0 p1 q0 q1 L5
            go_wp2_with fail
            go_ret
            exact ⟨rfl, Below.step BW.out F8.out.bl⟩
          · exact absurd hal (by rw [hno]; simp)
    · obtain rfl : k = ws.length := by omega
      obtain ⟨GA, gc⟩ := g
      go_wp2_with fail
      refine (CopyVectors_any ws ⟨GA, gc⟩ (by omega) HG.out _ (Fr.lies HA.out FK.out)).mono ?_
      rintro e w3 ⟨g2, rfl, hl2, _, _, hb3⟩
      have F3 := Lib.hid (FK.out.call hb3)
      have HL2 := Lib.hid hl2
      clear hb3 hl2 FK
      rcases KM.out with ⟨d, hd, hmo, hwe⟩ | ⟨hM, hl, hx⟩
      · have HMO := Lib.hid hmo
        have HWE := Lib.hid hwe
        have gn : (d != 0) = true := by simp [hd]
        clear hd hmo hwe
        go_wp2_with fail
        refine (HMO.out _ _ _ (TW.out.call F3.out.bl) HL2.out).mono ?_
        rintro e w4 ⟨rfl, hb4⟩
        have F4 := Lib.hid ((F3.out.call hb4).box 56 #[.slice none 0 0, .slice none 0 0])
        clear hb4 F3 HL2
        go_wp2_with fail
        refine (HWE.out _ _ _ (Fr.lies HA.out F4.out)).mono ?_
        rintro e w5 ⟨rfl, hb5⟩
        have F5 := Lib.hid (F4.out.call hb5)
        clear hb5 F4
        obtain ⟨p0, p1, _, _⟩ := F5.out.top.two
        go_wp2_with fail
        go_ret
        exact ⟨rfl, F5.out.bl⟩
      · have hal : ws.all okT = true := List.all_eq_true.2 hx
        have HW : Hid (wntE M ws = 0) := Lib.hid (by unfold wntE; rw [if_pos hM]; exact vsE_yes hx)
        have HMD := Lib.hid (Modulated_any M hM ws)
        obtain ⟨m0, m1⟩ := inB_iff.1 hM
        have HRM := Lib.hid (refModulated_any M ⟨by omega, by omega⟩ ws)
        have HX := Lib.hid hx
        have HIN := Lib.hid (fun (w : World) (A B : Option Addr) (c d : Nat) (h1 : Lies w w.heap.size A (ic (stsV M ws))) (h2 : Lies w w.heap.size B (ic (stsV M ws))) => by have := Ints_same (stsV M ws) A B c d (by rw [stsV_len]; unfold maxLen; omega) w h1 h2; rwa [stsV_len] at this)
        have HSA := Lib.hid (fun (w : World) (A B : Option Addr) (c d : Nat) (h1 : Lies w w.heap.size A ((lftV M ws).flatMap tc)) (h2 : Lies w w.heap.size B ((lftV M ws).flatMap tc)) => by have := Same_same (lftV M ws) A B c d (by rw [lftV_len]; unfold maxLen; omega) w h1 h2; rwa [lftV_len] at this)
        clear hx hM m0 m1
        go_wp2_with fail
        refine (HMD.out _ _ (by omega) _ (TW.out.call F3.out.bl) HL2.out).mono ?_
        rintro e wm ⟨hp, hb4⟩
        have F4 := Lib.hid (F3.out.call hb4)
        rcases hp with ⟨_, A1, c1, A2, c2, rfl, hs, hlf⟩ | ⟨hno, _⟩
        · have LS := Lib.hid hs
          have LL := Lib.hid hlf
          have LW := Lib.hid (Fr.lies HA.out F4.out)
          have BW := Lib.hid F4.out.bl
          have FM : Hid (Fr wm _ [(wm.heap.size, 56, #[.slice A1 ws.length c1, .slice A2 ws.length c2])]) := Lib.hid ((Fr.nil wm).box 56 #[.slice A1 ws.length c1, .slice A2 ws.length c2])
          clear hs hlf hb4 F3 F4 HL2 hal
          go_wp2_with fail
          refine (WantsErr_any M ws _ _ hl _ (Fr.lies LW.out FM.out)).mono ?_
          rintro e w5 ⟨rfl, hb5⟩
          rw [HW.out]
          have F5 := Lib.hid (FM.out.call hb5)
          clear hb5 FM
          go_wp2_with fail
          refine (HRM.out _ _ (by omega) HX.out _ (Fr.lies LW.out F5.out)).mono ?_
          rintro e w6 ⟨A3, c3, A4, c4, rfl, hs3, hs4, hb6⟩
          have F6 : Hid (Fr wm _ [(w6.heap.size, 56, #[.slice A3 ws.length c3, .slice A4 ws.length c4]), (wm.heap.size, 56, #[.slice A1 ws.length c1, .slice A2 ws.length c2])]) := Lib.hid ((F5.out.call hb6).box 56 #[.slice A3 ws.length c3, .slice A4 ws.length c4])
          have L3 := Lib.hid (Lies.new hs3 (.cells #[.slice A3 ws.length c3, .slice A4 ws.length c4] 56))
          have L4 := Lib.hid (Lies.new hs4 (.cells #[.slice A3 ws.length c3, .slice A4 ws.length c4] 56))
          have zz := (F5.out.call hb6).top.lt
          obtain ⟨q0, q1, _, _⟩ := (F5.out.call hb6).top.two
          clear hb6 F5 hs3 hs4
          go_wp2_with fail
          refine (HIN.out _ _ _ _ _ (Fr.lies LS.out F6.out) L3.out).mono ?_
          rintro e w7 ⟨rfl, hb7⟩
          have F7 := Lib.hid (F6.out.call hb7)
          have L5 := Lib.hid (Lies.call L4.out hb7)
          clear hb7 F6 q0 q1 L3 L4 zz
          obtain ⟨p0, p1, _, _⟩ := F7.out.top.two
          obtain ⟨q0, q1, _, _⟩ := F7.out.at1.two
          go_wp2_with fail
          refine (HSA.out _ _ _ _ _ (Fr.lies LL.out F7.out) L5.out).mono ?_
          rintro e w8 ⟨rfl, hb8⟩
          have F8 := Lib.hid (F7.out.call hb8)
          clear hb8 F7 p0 p1 q0 q1 L5
          go_wp2_with fail
          go_ret
          exact ⟨rfl, Below.step BW.out F8.out.bl⟩
        · exact absurd hal (by rw [hno]; simp)

set_option maxHeartbeats 8000000 in
set_option maxRecDepth 100000 in
theorem StatorStates_any (n M : Int) (ws : List T3) (g : Hd) (hg : HdOk g) (hm : ws.length ≤ maxLen) (w : World) (hT : Tab w) (hA : Lies w w.heap.size g.A (ws.flatMap tc)) : Calls Tryd.prog 5 #[.int .i64 n, .int .i64 M, .slice g.A ws.length g.c] w fun e w' => e = .returned (.bool true) ∧ Below w.heap.size w w' := by
  by_cases h1 : ws.length ≤ 20
  · exact states_in n M ws g hg (.inl h1) w hT hA
  · by_cases h2 : ws.length ≤ 60
    · exact states_out1 n M ws g (by omega) h2 w hT
    · by_cases h3 : ws.length ≤ 62
      · exact states_in n M ws g hg (.inr ⟨by omega, h3⟩) w hT hA
      · exact states_out2 n M ws g (by omega) hm w hT
end Go.Proofs.YtohldmmfnjfgmaaDoor
