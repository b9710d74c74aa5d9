/-
  The walk of StatorTurns.
-/
import Derived.Test.YtnkfkponlnpgeaaDoorTAwk
import Derived.Test.YtnkfkponlnpgeaaDoorTSec2
namespace Go.Proofs.YtnkfkponlnpgeaaDoor
open Go.RowKit

theorem sixth_rem (n : Nat) (h : n < 6) : ((n : Int) + 1).tmod 6 = (((n + 1) % 6 : Nat) : Int) := by
  rw [Int.tmod_eq_emod_of_nonneg (by omega)]; omega

set_option maxHeartbeats 4000000 in
set_option maxRecDepth 100000 in
theorem StatorTurns_bad (v : T3) (s : Int) (w : World) (hT : Tab w) (h : okT v = false ∨ inB s (-1000000) 1000000 = false) : Calls Tryd.prog 4 #[(.agg #[.int .i64 v.a, .int .i64 v.b]), .int .i64 s] w fun e w' => e = .returned (.bool true) ∧ Below w.heap.size w w' := by
  have F0 := Lib.hid (Fr.b1 w 24 #[.int .i64 v.a, .int .i64 v.b])
  have T0 := Lib.hid (hT.new (.cells #[.int .i64 v.a, .int .i64 v.b] 24))
  clear hT
  have HT : Hid (∀ w, Calls Tryd.prog 26 #[(.agg #[.int .i64 v.a, .int .i64 v.b]), .int .i64 s] w fun e w' => e = .returned (.tuple #[.agg #[.int .i64 0, .int .i64 0], .int .i64 2]) ∧ Below w.heap.size w w') := Lib.hid (Turned_bad v s h)
  cases hv : okT v with
  | false =>
    have HE := Lib.hid (vE_bad hv)
    clear hv h
    go_enter Tryd.func4, Tryd.ntmps4
    go_wp2_with fail
    refine (awake_any _ T0.out).mono ?_
    rintro e w1 ⟨rfl, hb1⟩
    have G1 := Fr.call F0.out hb1
    obtain ⟨k0_0, k0_1, kf0, kg0⟩ := (G1.get 0 rfl).two
    have kz0 := (G1.get 0 rfl).lt
    have F1 : Hid (Fr w _ [(w.heap.size, 24, #[.int .i64 v.a, .int .i64 v.b])]) := Lib.hid G1
    clear hb1 G1 F0
    go_wp2_with fail
    refine (HT.out _).mono ?_
    rintro e w2 ⟨rfl, hb2⟩
    clear k0_0 k0_1 kf0 kg0 kz0
    have G2 := Fr.call F1.out hb2
    obtain ⟨k0_0, k0_1, kf0, kg0⟩ := (G2.get 0 rfl).two
    have kz0 := (G2.get 0 rfl).lt
    have F2 : Hid (Fr w _ [(w2.heap.size, 24, #[.int .i64 0, .int .i64 0]), (w.heap.size, 24, #[.int .i64 v.a, .int .i64 v.b])]) := Lib.hid (Fr.box G2 24 #[.int .i64 0, .int .i64 0])
    clear hb2 G2 F1
    go_wp2_with fail
    refine (VectorErr_any v _).mono ?_
    rintro e w3 ⟨rfl, hb3⟩
    rw [HE.out]
    clear k0_0 k0_1 kf0 kg0 kz0
    have G3 := Fr.call F2.out hb3
    obtain ⟨k0_0, k0_1, kf0, kg0⟩ := (G3.get 1 rfl).two
    have kz0 := (G3.get 1 rfl).lt
    obtain ⟨k1_0, k1_1, kf1, kg1⟩ := (G3.get 0 rfl).two
    have kz1 := (G3.get 0 rfl).lt
    have F3 : Hid (Fr w _ [(w2.heap.size, 24, #[.int .i64 0, .int .i64 0]), (w.heap.size, 24, #[.int .i64 v.a, .int .i64 v.b])]) := Lib.hid G3
    clear hb3 G3 F2
    go_wp2_with fail
    go_ret
    exact ⟨rfl, F3.out.bl⟩
  | true =>
    have hs : inB s (-1000000) 1000000 = false := by rcases h with h | h; · rw [hv] at h; cases h
                                                     · exact h
    have HE := Lib.hid (vE_ok hv)
    clear hv h
    go_enter Tryd.func4, Tryd.ntmps4
    go_wp2_with fail
    refine (awake_any _ T0.out).mono ?_
    rintro e w1 ⟨rfl, hb1⟩
    have G1 := Fr.call F0.out hb1
    obtain ⟨k0_0, k0_1, kf0, kg0⟩ := (G1.get 0 rfl).two
    have kz0 := (G1.get 0 rfl).lt
    have F1 : Hid (Fr w _ [(w.heap.size, 24, #[.int .i64 v.a, .int .i64 v.b])]) := Lib.hid G1
    clear hb1 G1 F0
    go_wp2_with fail
    refine (HT.out _).mono ?_
    rintro e w2 ⟨rfl, hb2⟩
    clear k0_0 k0_1 kf0 kg0 kz0
    have G2 := Fr.call F1.out hb2
    obtain ⟨k0_0, k0_1, kf0, kg0⟩ := (G2.get 0 rfl).two
    have kz0 := (G2.get 0 rfl).lt
    have F2 : Hid (Fr w _ [(w2.heap.size, 24, #[.int .i64 0, .int .i64 0]), (w.heap.size, 24, #[.int .i64 v.a, .int .i64 v.b])]) := Lib.hid (Fr.box G2 24 #[.int .i64 0, .int .i64 0])
    clear hb2 G2 F1
    go_wp2_with fail
    refine (VectorErr_any v _).mono ?_
    rintro e w3 ⟨rfl, hb3⟩
    rw [HE.out]
    clear k0_0 k0_1 kf0 kg0 kz0
    have G3 := Fr.call F2.out hb3
    obtain ⟨k0_0, k0_1, kf0, kg0⟩ := (G3.get 1 rfl).two
    have kz0 := (G3.get 1 rfl).lt
    obtain ⟨k1_0, k1_1, kf1, kg1⟩ := (G3.get 0 rfl).two
    have kz1 := (G3.get 0 rfl).lt
    have F3 : Hid (Fr w _ [(w2.heap.size, 24, #[.int .i64 0, .int .i64 0]), (w.heap.size, 24, #[.int .i64 v.a, .int .i64 v.b])]) := Lib.hid G3
    clear hb3 G3 F2
    go_wp2_with (go_at_call 27; refine (Within_any _ _ _ _).mono ?_; rintro e w' ⟨rfl, rfl⟩)
    go_ret
    exact ⟨rfl, F3.out.bl⟩

set_option maxHeartbeats 4000000 in
set_option maxRecDepth 100000 in
theorem StatorTurns_any (v : T3) (s : Int) (w : World) (hT : Tab w) : Calls Tryd.prog 4 #[(.agg #[.int .i64 v.a, .int .i64 v.b]), .int .i64 s] w fun e w' => e = .returned (.bool true) ∧ Below w.heap.size w w' := by
  by_cases hin : okT v = false ∨ inB s (-1000000) 1000000 = false
  · exact StatorTurns_bad v s w hT hin
  have hv : okT v = true := by cases h : okT v <;> simp [h] at hin ⊢
  have hs : inB s (-1000000) 1000000 = true := by cases h : inB s (-1000000) 1000000 <;> simp [h] at hin ⊢
  clear hin
  have hbd := okT_bd hv
  have HIN : Hid (v.In 1000000000000) := Lib.hid ((okT_in hv).more (by omega))
  have HE := Lib.hid (vE_ok hv)
  have HT : Hid (∀ w, Calls Tryd.prog 26 #[(.agg #[.int .i64 v.a, .int .i64 v.b]), .int .i64 s] w fun e w' => e = .returned (.tuple #[(.agg #[.int .i64 (turned v s).a, .int .i64 (turned v s).b]), .int .i64 0]) ∧ Below w.heap.size w w') := Lib.hid (Turned_ok v s hv hs)
  have HT6 : Hid (∀ w, Calls Tryd.prog 26 #[(.agg #[.int .i64 v.a, .int .i64 v.b]), .int .i64 6] w fun e w' => e = .returned (.tuple #[(.agg #[.int .i64 v.a, .int .i64 v.b]), .int .i64 0]) ∧ Below w.heap.size w w') := Lib.hid (Turned_ok v 6 hv (by decide))
  have HT3 : Hid (∀ w, Calls Tryd.prog 26 #[(.agg #[.int .i64 v.a, .int .i64 v.b]), .int .i64 (-3)] w fun e w' => e = .returned (.tuple #[.agg #[.int .i64 (-v.a), .int .i64 (-v.b)], .int .i64 0]) ∧ Below w.heap.size w w') := Lib.hid (fun w => by have := Turned_ok v (-3) hv (by decide) w; rw [turned_back] at this; exact this)
  obtain ⟨u, hu⟩ : ∃ u : T3, turned v 1 = u := ⟨_, rfl⟩
  have HT1 : Hid (∀ w, Calls Tryd.prog 26 #[(.agg #[.int .i64 v.a, .int .i64 v.b]), .int .i64 1] w fun e w' => e = .returned (.tuple #[(.agg #[.int .i64 u.a, .int .i64 u.b]), .int .i64 0]) ∧ Below w.heap.size w w') := Lib.hid (fun w => by have := Turned_ok v 1 hv (by decide) w; rw [hu] at this; exact this)
  have HRT : Hid (∀ w, Calls Tryd.prog 28 #[(.agg #[.int .i64 v.a, .int .i64 v.b]), .int .i64 s] w fun e w' => e = .returned (.agg #[.int .i64 (turned v s).a, .int .i64 (turned v s).b]) ∧ Below w.heap.size w w') := Lib.hid (refTurned_any v s HIN.out)
  have hxb : (turned v s).Bd 1000000000 := (((okT_in hv).turnN (s % 6).toNat).bd).more (by omega)
  have hxn : (turned v s).nrm = v.nrm := nrm_turned v s
  have HNV : Hid (∀ w, Calls Tryd.prog 29 #[(.agg #[.int .i64 v.a, .int .i64 v.b])] w fun e w' => e = .returned (.int .i64 v.nrm) ∧ Below w.heap.size w w') := Lib.hid (TNorm_any v (hbd.more (by omega)))
  have HNX : Hid (∀ w, Calls Tryd.prog 29 #[(.agg #[.int .i64 (turned v s).a, .int .i64 (turned v s).b])] w fun e w' => e = .returned (.int .i64 v.nrm) ∧ Below w.heap.size w w') := Lib.hid (fun w => by have := TNorm_any _ hxb w; rw [hxn] at this; exact this)
  have HSV : Hid (¬ (v.a = 0 ∧ v.b = 0) → ∀ w, Calls Tryd.prog 19 #[(.agg #[.int .i64 v.a, .int .i64 v.b])] w fun e w' => e = .returned (.tuple #[.int .i64 (secV v), .int .i64 0]) ∧ Below w.heap.size w w') := Lib.hid (SectorOf_ok v hv)
  have HSU : Hid (okT u = true → ¬ (v.a = 0 ∧ v.b = 0) → ∀ w, Calls Tryd.prog 19 #[(.agg #[.int .i64 u.a, .int .i64 u.b])] w fun e w' => e = .returned (.tuple #[.int .i64 ((secV v + 1) % 6 : Nat), .int .i64 0]) ∧ Below w.heap.size w w') := Lib.hid (fun ho hz w => by
    have := SectorOf_ok u ho (by rw [← hu, turned_one]; simp only; omega) w
    have e := sec_next v hz
    rw [hu] at e
    rw [e] at this
    exact this)
  have H6 : Hid (¬ (v.a = 0 ∧ v.b = 0) → secV v < 6) := Lib.hid (fun hz => (sec_hit v hz).2)
  obtain ⟨a0, a1, b0, b1⟩ := hbd
  clear hv hxb hxn hu
  generalize (turned v s) = x at *
  have F0 := Lib.hid (Fr.b1 w 24 #[.int .i64 v.a, .int .i64 v.b])
  have T0 := Lib.hid (hT.new (.cells #[.int .i64 v.a, .int .i64 v.b] 24))
  clear hT
  go_enter Tryd.func4, Tryd.ntmps4
  go_wp2_with fail
  refine (awake_any _ T0.out).mono ?_
  rintro e w1 ⟨rfl, hb1⟩
  have G1 := Fr.call F0.out hb1
  obtain ⟨k0_0, k0_1, kf0, kg0⟩ := (G1.get 0 rfl).two
  have kz0 := (G1.get 0 rfl).lt
  have F1 : Hid (Fr w _ [(w.heap.size, 24, #[.int .i64 v.a, .int .i64 v.b])]) := Lib.hid G1
  clear hb1 G1 F0
  go_wp2_with fail
  refine (HT.out _).mono ?_
  rintro e w2 ⟨rfl, hb2⟩
  clear k0_0 k0_1 kf0 kg0 kz0
  have G2 := Fr.call F1.out hb2
  obtain ⟨k0_0, k0_1, kf0, kg0⟩ := (G2.get 0 rfl).two
  have kz0 := (G2.get 0 rfl).lt
  have F2 : Hid (Fr w _ [(w2.heap.size, 24, #[.int .i64 x.a, .int .i64 x.b]), (w.heap.size, 24, #[.int .i64 v.a, .int .i64 v.b])]) := Lib.hid (Fr.box G2 24 #[.int .i64 x.a, .int .i64 x.b])
  clear hb2 G2 F1
  go_wp2_with fail
  refine (VectorErr_any v _).mono ?_
  rintro e w3 ⟨rfl, hb3⟩
  rw [HE.out]
  clear k0_0 k0_1 kf0 kg0 kz0
  have G3 := Fr.call F2.out hb3
  obtain ⟨k0_0, k0_1, kf0, kg0⟩ := (G3.get 1 rfl).two
  have kz0 := (G3.get 1 rfl).lt
  obtain ⟨k1_0, k1_1, kf1, kg1⟩ := (G3.get 0 rfl).two
  have kz1 := (G3.get 0 rfl).lt
  have F3 : Hid (Fr w _ [(w2.heap.size, 24, #[.int .i64 x.a, .int .i64 x.b]), (w.heap.size, 24, #[.int .i64 v.a, .int .i64 v.b])]) := Lib.hid G3
  clear hb3 G3 F2
  go_upto_region 6 with (go_at_call 27; refine (Within_any _ _ _ _).mono ?_; rintro e w' ⟨rfl, rfl⟩)
  go_cut [55] (fun y W => y = .bool false ∧ Fr w W [(w2.heap.size, 24, #[.int .i64 x.a, .int .i64 x.b]), (w.heap.size, 24, #[.int .i64 v.a, .int .i64 v.b])])
  case first =>
    have HALL : Hid (∀ W, Fr w W [(w2.heap.size, 24, #[.int .i64 x.a, .int .i64 x.b]), (w.heap.size, 24, #[.int .i64 v.a, .int .i64 v.b])] → Fr w W [(w2.heap.size, 24, #[.int .i64 x.a, .int .i64 x.b]), (w.heap.size, 24, #[.int .i64 v.a, .int .i64 v.b])] ∧ W.cell? ⟨w2.heap.size, 0, none⟩ = some (.int .i64 x.a) ∧ W.cell? ⟨w2.heap.size, 1, none⟩ = some (.int .i64 x.b) ∧ W.cell? ⟨w.heap.size, 0, none⟩ = some (.int .i64 v.a) ∧ W.cell? ⟨w.heap.size, 1, none⟩ = some (.int .i64 v.b)) := Lib.hid (fun W hW => ⟨hW, hW.top.cell 0, hW.top.cell 1, hW.at1.cell 0, hW.at1.cell 1⟩)
    have F10 : Fr w _ [(w2.heap.size, 24, #[.int .i64 x.a, .int .i64 x.b]), (w.heap.size, 24, #[.int .i64 v.a, .int .i64 v.b])] := F3.out
    clear F3
    go_region_held3 (fun W => Fr w W [(w2.heap.size, 24, #[.int .i64 x.a, .int .i64 x.b]), (w.heap.size, 24, #[.int .i64 v.a, .int .i64 v.b])] ∧ W.cell? ⟨w2.heap.size, 0, none⟩ = some (.int .i64 x.a) ∧ W.cell? ⟨w2.heap.size, 1, none⟩ = some (.int .i64 x.b) ∧ W.cell? ⟨w.heap.size, 0, none⟩ = some (.int .i64 v.a) ∧ W.cell? ⟨w.heap.size, 1, none⟩ = some (.int .i64 v.b))
      ((go_split_ands; refine HALL.out _ ?_; (first | assumption | (repeat (first | assumption | refine Fr.new ?_ _ | refine Fr.drew ?_ | (refine Fr.set ?_ (by first | exact Nat.le_refl _ | omega | (simp; done) | (simp; omega)) (by first | (simp; done) | (simp; omega)) _))); done)))
      ((first
        | (go_at_call 28; go_split_ands; (with_reducible refine (HRT.out _).mono ?_); rintro e w1 ⟨rfl, hb1⟩; have F4 := Fr.call (by assumption) hb1; clear hb1)
        | (go_at_call 29; go_split_ands; (with_reducible refine (HNX.out _).mono ?_); rintro e w1 ⟨rfl, hb1⟩; have F4 := Fr.call (by assumption) hb1; clear hb1)
        | (go_at_call 29; go_split_ands; (with_reducible refine (HNV.out _).mono ?_); rintro e w1 ⟨rfl, hb1⟩; have F4 := Fr.call (by assumption) hb1; clear hb1)
        | fail "arm"))
    all_goals
      go_split_ands
      go_wp2_with fail
      go_meet
      exact ⟨rfl, by assumption⟩
  case rest =>
    obtain ⟨wx, rfl⟩ : ∃ W, W = wc := ⟨_, rfl⟩
    obtain ⟨rfl, hx⟩ := hcut
    have FC : Hid (Fr w _ [(w2.heap.size, 24, #[.int .i64 x.a, .int .i64 x.b]), (w.heap.size, 24, #[.int .i64 v.a, .int .i64 v.b])]) := Lib.hid hx
    clear k0_0 k0_1 kf0 kg0 kz0 k1_0 k1_1 kf1 kg1 kz1 hx F3
    obtain ⟨k0_0, k0_1, kf0, kg0⟩ := (FC.out.get 1 rfl).two
    have kz0 := (FC.out.get 1 rfl).lt
    obtain ⟨k1_0, k1_1, kf1, kg1⟩ := (FC.out.get 0 rfl).two
    have kz1 := (FC.out.get 0 rfl).lt
    go_wp2_with fail
    refine (HT6.out _).mono ?_
    rintro e w4 ⟨rfl, hb4⟩
    clear k0_0 k0_1 kf0 kg0 kz0 k1_0 k1_1 kf1 kg1 kz1
    have G4 := Fr.call FC.out hb4
    obtain ⟨k0_0, k0_1, kf0, kg0⟩ := (G4.get 1 rfl).two
    have kz0 := (G4.get 1 rfl).lt
    obtain ⟨k1_0, k1_1, kf1, kg1⟩ := (G4.get 0 rfl).two
    have kz1 := (G4.get 0 rfl).lt
    have F4 : Hid (Fr w _ [(w4.heap.size, 24, #[.int .i64 v.a, .int .i64 v.b]), (w2.heap.size, 24, #[.int .i64 x.a, .int .i64 x.b]), (w.heap.size, 24, #[.int .i64 v.a, .int .i64 v.b])]) := Lib.hid (Fr.box G4 24 #[.int .i64 v.a, .int .i64 v.b])
    clear hb4 G4 FC
    go_wp2_with fail
    refine (HT3.out _).mono ?_
    rintro e w5 ⟨rfl, hb5⟩
    clear k0_0 k0_1 kf0 kg0 kz0 k1_0 k1_1 kf1 kg1 kz1
    have G5 := Fr.call F4.out hb5
    obtain ⟨k0_0, k0_1, kf0, kg0⟩ := (G5.get 2 rfl).two
    have kz0 := (G5.get 2 rfl).lt
    obtain ⟨k1_0, k1_1, kf1, kg1⟩ := (G5.get 1 rfl).two
    have kz1 := (G5.get 1 rfl).lt
    obtain ⟨k2_0, k2_1, kf2, kg2⟩ := (G5.get 0 rfl).two
    have kz2 := (G5.get 0 rfl).lt
    have F5 : Hid (Fr w _ [(w5.heap.size, 24, #[.int .i64 (-v.a), .int .i64 (-v.b)]), (w4.heap.size, 24, #[.int .i64 v.a, .int .i64 v.b]), (w2.heap.size, 24, #[.int .i64 x.a, .int .i64 x.b]), (w.heap.size, 24, #[.int .i64 v.a, .int .i64 v.b])]) := Lib.hid (Fr.box G5 24 #[.int .i64 (-v.a), .int .i64 (-v.b)])
    clear hb5 G5 F4
    go_wp2_with fail
    refine (HT1.out _).mono ?_
    rintro e w6 ⟨rfl, hb6⟩
    clear k0_0 k0_1 kf0 kg0 kz0 k1_0 k1_1 kf1 kg1 kz1 k2_0 k2_1 kf2 kg2 kz2
    have G6 := Fr.call F5.out hb6
    obtain ⟨k0_0, k0_1, kf0, kg0⟩ := (G6.get 3 rfl).two
    have kz0 := (G6.get 3 rfl).lt
    obtain ⟨k1_0, k1_1, kf1, kg1⟩ := (G6.get 2 rfl).two
    have kz1 := (G6.get 2 rfl).lt
    obtain ⟨k2_0, k2_1, kf2, kg2⟩ := (G6.get 1 rfl).two
    have kz2 := (G6.get 1 rfl).lt
    obtain ⟨k3_0, k3_1, kf3, kg3⟩ := (G6.get 0 rfl).two
    have kz3 := (G6.get 0 rfl).lt
    have F6 : Hid (Fr w _ [(w6.heap.size, 24, #[.int .i64 u.a, .int .i64 u.b]), (w5.heap.size, 24, #[.int .i64 (-v.a), .int .i64 (-v.b)]), (w4.heap.size, 24, #[.int .i64 v.a, .int .i64 v.b]), (w2.heap.size, 24, #[.int .i64 x.a, .int .i64 x.b]), (w.heap.size, 24, #[.int .i64 v.a, .int .i64 v.b])]) := Lib.hid (Fr.box G6 24 #[.int .i64 u.a, .int .i64 u.b])
    clear hb6 G6 F5
    by_cases hz : v.a = 0 ∧ v.b = 0
    · have hz1 := hz.1
      have hz2 := hz.2
      go_wp2_with fail
      go_ret
      exact ⟨rfl, F6.out.bl⟩
    · have hz3 : (v.a = 0 ∧ ¬ v.b = 0) ∨ ¬ v.a = 0 := by omega
      cases hk : okT u with
      | false =>
        have HU := Lib.hid (vE_bad hk)
        clear hk
        generalize v.a = a at *
        generalize v.b = b at *
        rcases hz3 with ⟨rfl, hz5⟩ | hz4
        · go_upto_region 13 with fail
          go_cut [104] (fun y W => y = .bool true ∧ Fr w W [(w6.heap.size, 24, #[.int .i64 u.a, .int .i64 u.b]), (w5.heap.size, 24, #[.int .i64 (-0), .int .i64 (-b)]), (w4.heap.size, 24, #[.int .i64 0, .int .i64 b]), (w2.heap.size, 24, #[.int .i64 x.a, .int .i64 x.b]), (w.heap.size, 24, #[.int .i64 0, .int .i64 b])])
          case first =>
            go_wp2_with fail
            refine (VectorErr_any u _).mono ?_
            rintro e w9 ⟨rfl, hb9⟩
            rw [HU.out]
            have G9 := Fr.call F6.out hb9
            clear hb9
            go_wp2_with fail
            go_meet
            exact ⟨rfl, G9⟩
          case rest =>
            obtain ⟨wx, rfl⟩ : ∃ W, W = wc := ⟨_, rfl⟩
            obtain ⟨rfl, hx⟩ := hcut
            have FD := Lib.hid hx
            clear k0_0 k0_1 kf0 kg0 kz0 k1_0 k1_1 kf1 kg1 kz1 k2_0 k2_1 kf2 kg2 kz2 k3_0 k3_1 kf3 kg3 kz3 hx hz F6
            go_wp2_with fail
            go_ret
            exact ⟨rfl, FD.out.bl⟩
        · go_upto_region 13 with fail
          go_cut [104] (fun y W => y = .bool true ∧ Fr w W [(w6.heap.size, 24, #[.int .i64 u.a, .int .i64 u.b]), (w5.heap.size, 24, #[.int .i64 (-a), .int .i64 (-b)]), (w4.heap.size, 24, #[.int .i64 a, .int .i64 b]), (w2.heap.size, 24, #[.int .i64 x.a, .int .i64 x.b]), (w.heap.size, 24, #[.int .i64 a, .int .i64 b])])
          case first =>
            go_wp2_with fail
            refine (VectorErr_any u _).mono ?_
            rintro e w9 ⟨rfl, hb9⟩
            rw [HU.out]
            have G9 := Fr.call F6.out hb9
            clear hb9
            go_wp2_with fail
            go_meet
            exact ⟨rfl, G9⟩
          case rest =>
            obtain ⟨wx, rfl⟩ : ∃ W, W = wc := ⟨_, rfl⟩
            obtain ⟨rfl, hx⟩ := hcut
            have FD := Lib.hid hx
            clear k0_0 k0_1 kf0 kg0 kz0 k1_0 k1_1 kf1 kg1 kz1 k2_0 k2_1 kf2 kg2 kz2 k3_0 k3_1 kf3 kg3 kz3 hx hz F6
            go_wp2_with fail
            go_ret
            exact ⟨rfl, FD.out.bl⟩
      | true =>
        have HU := Lib.hid (vE_ok hk)
        have HSV1 := Lib.hid (HSV.out hz)
        have HSU1 := Lib.hid (HSU.out hk hz)
        have h6 := H6.out hz
        have HR := Lib.hid (sixth_rem _ h6)
        have hw5 : Hid (inB (secV v : Int) 0 5 = true) := Lib.hid ((inB_iff).2 (by omega))
        clear hk
        generalize v.a = a at *
        generalize v.b = b at *
        rcases hz3 with ⟨rfl, hz5⟩ | hz4
        · go_upto_region 13 with fail
          go_cut [104] (fun y W => y = .bool false ∧ Fr w W [(w6.heap.size, 24, #[.int .i64 u.a, .int .i64 u.b]), (w5.heap.size, 24, #[.int .i64 (-0), .int .i64 (-b)]), (w4.heap.size, 24, #[.int .i64 0, .int .i64 b]), (w2.heap.size, 24, #[.int .i64 x.a, .int .i64 x.b]), (w.heap.size, 24, #[.int .i64 0, .int .i64 b])])
          case first =>
            go_wp2_with fail
            refine (VectorErr_any u _).mono ?_
            rintro e w9 ⟨rfl, hb9⟩
            rw [HU.out]
            have G9 := Fr.call F6.out hb9
            clear hb9
            go_wp2_with fail
            go_meet
            exact ⟨rfl, G9⟩
          case rest =>
            obtain ⟨wx, rfl⟩ : ∃ W, W = wc := ⟨_, rfl⟩
            obtain ⟨rfl, hx⟩ := hcut
            have FD := Lib.hid hx
            clear k0_0 k0_1 kf0 kg0 kz0 k1_0 k1_1 kf1 kg1 kz1 k2_0 k2_1 kf2 kg2 kz2 k3_0 k3_1 kf3 kg3 kz3 hx hz F6
            obtain ⟨k0_0, k0_1, kf0, kg0⟩ := (FD.out.get 4 rfl).two
            have kz0 := (FD.out.get 4 rfl).lt
            obtain ⟨k1_0, k1_1, kf1, kg1⟩ := (FD.out.get 3 rfl).two
            have kz1 := (FD.out.get 3 rfl).lt
            obtain ⟨k2_0, k2_1, kf2, kg2⟩ := (FD.out.get 2 rfl).two
            have kz2 := (FD.out.get 2 rfl).lt
            obtain ⟨k3_0, k3_1, kf3, kg3⟩ := (FD.out.get 1 rfl).two
            have kz3 := (FD.out.get 1 rfl).lt
            obtain ⟨k4_0, k4_1, kf4, kg4⟩ := (FD.out.get 0 rfl).two
            have kz4 := (FD.out.get 0 rfl).lt
            go_wp2_with fail
            refine (HSV1.out _).mono ?_
            rintro e w7 ⟨rfl, hb7⟩
            clear k0_0 k0_1 kf0 kg0 kz0 k1_0 k1_1 kf1 kg1 kz1 k2_0 k2_1 kf2 kg2 kz2 k3_0 k3_1 kf3 kg3 kz3 k4_0 k4_1 kf4 kg4 kz4
            have G7 := Fr.call FD.out hb7
            obtain ⟨k0_0, k0_1, kf0, kg0⟩ := (G7.get 4 rfl).two
            have kz0 := (G7.get 4 rfl).lt
            obtain ⟨k1_0, k1_1, kf1, kg1⟩ := (G7.get 3 rfl).two
            have kz1 := (G7.get 3 rfl).lt
            obtain ⟨k2_0, k2_1, kf2, kg2⟩ := (G7.get 2 rfl).two
            have kz2 := (G7.get 2 rfl).lt
            obtain ⟨k3_0, k3_1, kf3, kg3⟩ := (G7.get 1 rfl).two
            have kz3 := (G7.get 1 rfl).lt
            obtain ⟨k4_0, k4_1, kf4, kg4⟩ := (G7.get 0 rfl).two
            have kz4 := (G7.get 0 rfl).lt
            have F7 : Hid (Fr w _ [(w6.heap.size, 24, #[.int .i64 u.a, .int .i64 u.b]), (w5.heap.size, 24, #[.int .i64 (-0), .int .i64 (-b)]), (w4.heap.size, 24, #[.int .i64 0, .int .i64 b]), (w2.heap.size, 24, #[.int .i64 x.a, .int .i64 x.b]), (w.heap.size, 24, #[.int .i64 0, .int .i64 b])]) := Lib.hid G7
            clear hb7 G7 FD
            go_wp2_with fail
            refine (HSU1.out _).mono ?_
            rintro e w8 ⟨rfl, hb8⟩
            clear k0_0 k0_1 kf0 kg0 kz0 k1_0 k1_1 kf1 kg1 kz1 k2_0 k2_1 kf2 kg2 kz2 k3_0 k3_1 kf3 kg3 kz3 k4_0 k4_1 kf4 kg4 kz4
            have G8 := Fr.call F7.out hb8
            obtain ⟨k0_0, k0_1, kf0, kg0⟩ := (G8.get 4 rfl).two
            have kz0 := (G8.get 4 rfl).lt
            obtain ⟨k1_0, k1_1, kf1, kg1⟩ := (G8.get 3 rfl).two
            have kz1 := (G8.get 3 rfl).lt
            obtain ⟨k2_0, k2_1, kf2, kg2⟩ := (G8.get 2 rfl).two
            have kz2 := (G8.get 2 rfl).lt
            obtain ⟨k3_0, k3_1, kf3, kg3⟩ := (G8.get 1 rfl).two
            have kz3 := (G8.get 1 rfl).lt
            obtain ⟨k4_0, k4_1, kf4, kg4⟩ := (G8.get 0 rfl).two
            have kz4 := (G8.get 0 rfl).lt
            have F8 : Hid (Fr w _ [(w6.heap.size, 24, #[.int .i64 u.a, .int .i64 u.b]), (w5.heap.size, 24, #[.int .i64 (-0), .int .i64 (-b)]), (w4.heap.size, 24, #[.int .i64 0, .int .i64 b]), (w2.heap.size, 24, #[.int .i64 x.a, .int .i64 x.b]), (w.heap.size, 24, #[.int .i64 0, .int .i64 b])]) := Lib.hid G8
            clear hb8 G8 F7
            have HR1 := HR.out
            have hw6 := hw5.out
            go_wp2_with (go_at_call 27; refine (Within_any _ _ _ _).mono ?_; rintro e w' ⟨rfl, rfl⟩)
            go_ret
            exact ⟨rfl, F8.out.bl⟩
        · go_upto_region 13 with fail
          go_cut [104] (fun y W => y = .bool false ∧ Fr w W [(w6.heap.size, 24, #[.int .i64 u.a, .int .i64 u.b]), (w5.heap.size, 24, #[.int .i64 (-a), .int .i64 (-b)]), (w4.heap.size, 24, #[.int .i64 a, .int .i64 b]), (w2.heap.size, 24, #[.int .i64 x.a, .int .i64 x.b]), (w.heap.size, 24, #[.int .i64 a, .int .i64 b])])
          case first =>
            go_wp2_with fail
            refine (VectorErr_any u _).mono ?_
            rintro e w9 ⟨rfl, hb9⟩
            rw [HU.out]
            have G9 := Fr.call F6.out hb9
            clear hb9
            go_wp2_with fail
            go_meet
            exact ⟨rfl, G9⟩
          case rest =>
            obtain ⟨wx, rfl⟩ : ∃ W, W = wc := ⟨_, rfl⟩
            obtain ⟨rfl, hx⟩ := hcut
            have FD := Lib.hid hx
            clear k0_0 k0_1 kf0 kg0 kz0 k1_0 k1_1 kf1 kg1 kz1 k2_0 k2_1 kf2 kg2 kz2 k3_0 k3_1 kf3 kg3 kz3 hx hz F6
            obtain ⟨k0_0, k0_1, kf0, kg0⟩ := (FD.out.get 4 rfl).two
            have kz0 := (FD.out.get 4 rfl).lt
            obtain ⟨k1_0, k1_1, kf1, kg1⟩ := (FD.out.get 3 rfl).two
            have kz1 := (FD.out.get 3 rfl).lt
            obtain ⟨k2_0, k2_1, kf2, kg2⟩ := (FD.out.get 2 rfl).two
            have kz2 := (FD.out.get 2 rfl).lt
            obtain ⟨k3_0, k3_1, kf3, kg3⟩ := (FD.out.get 1 rfl).two
            have kz3 := (FD.out.get 1 rfl).lt
            obtain ⟨k4_0, k4_1, kf4, kg4⟩ := (FD.out.get 0 rfl).two
            have kz4 := (FD.out.get 0 rfl).lt
            go_wp2_with fail
            refine (HSV1.out _).mono ?_
            rintro e w7 ⟨rfl, hb7⟩
            clear k0_0 k0_1 kf0 kg0 kz0 k1_0 k1_1 kf1 kg1 kz1 k2_0 k2_1 kf2 kg2 kz2 k3_0 k3_1 kf3 kg3 kz3 k4_0 k4_1 kf4 kg4 kz4
            have G7 := Fr.call FD.out hb7
            obtain ⟨k0_0, k0_1, kf0, kg0⟩ := (G7.get 4 rfl).two
            have kz0 := (G7.get 4 rfl).lt
            obtain ⟨k1_0, k1_1, kf1, kg1⟩ := (G7.get 3 rfl).two
            have kz1 := (G7.get 3 rfl).lt
            obtain ⟨k2_0, k2_1, kf2, kg2⟩ := (G7.get 2 rfl).two
            have kz2 := (G7.get 2 rfl).lt
            obtain ⟨k3_0, k3_1, kf3, kg3⟩ := (G7.get 1 rfl).two
            have kz3 := (G7.get 1 rfl).lt
            obtain ⟨k4_0, k4_1, kf4, kg4⟩ := (G7.get 0 rfl).two
            have kz4 := (G7.get 0 rfl).lt
            have F7 : Hid (Fr w _ [(w6.heap.size, 24, #[.int .i64 u.a, .int .i64 u.b]), (w5.heap.size, 24, #[.int .i64 (-a), .int .i64 (-b)]), (w4.heap.size, 24, #[.int .i64 a, .int .i64 b]), (w2.heap.size, 24, #[.int .i64 x.a, .int .i64 x.b]), (w.heap.size, 24, #[.int .i64 a, .int .i64 b])]) := Lib.hid G7
            clear hb7 G7 FD
            go_wp2_with fail
            refine (HSU1.out _).mono ?_
            rintro e w8 ⟨rfl, hb8⟩
            clear k0_0 k0_1 kf0 kg0 kz0 k1_0 k1_1 kf1 kg1 kz1 k2_0 k2_1 kf2 kg2 kz2 k3_0 k3_1 kf3 kg3 kz3 k4_0 k4_1 kf4 kg4 kz4
            have G8 := Fr.call F7.out hb8
            obtain ⟨k0_0, k0_1, kf0, kg0⟩ := (G8.get 4 rfl).two
            have kz0 := (G8.get 4 rfl).lt
            obtain ⟨k1_0, k1_1, kf1, kg1⟩ := (G8.get 3 rfl).two
            have kz1 := (G8.get 3 rfl).lt
            obtain ⟨k2_0, k2_1, kf2, kg2⟩ := (G8.get 2 rfl).two
            have kz2 := (G8.get 2 rfl).lt
            obtain ⟨k3_0, k3_1, kf3, kg3⟩ := (G8.get 1 rfl).two
            have kz3 := (G8.get 1 rfl).lt
            obtain ⟨k4_0, k4_1, kf4, kg4⟩ := (G8.get 0 rfl).two
            have kz4 := (G8.get 0 rfl).lt
            have F8 : Hid (Fr w _ [(w6.heap.size, 24, #[.int .i64 u.a, .int .i64 u.b]), (w5.heap.size, 24, #[.int .i64 (-a), .int .i64 (-b)]), (w4.heap.size, 24, #[.int .i64 a, .int .i64 b]), (w2.heap.size, 24, #[.int .i64 x.a, .int .i64 x.b]), (w.heap.size, 24, #[.int .i64 a, .int .i64 b])]) := Lib.hid G8
            clear hb8 G8 F7
            have HR1 := HR.out
            have hw6 := hw5.out
            go_wp2_with (go_at_call 27; refine (Within_any _ _ _ _).mono ?_; rintro e w' ⟨rfl, rfl⟩)
            go_ret
            exact ⟨rfl, F8.out.bl⟩
end Go.Proofs.YtnkfkponlnpgeaaDoor
