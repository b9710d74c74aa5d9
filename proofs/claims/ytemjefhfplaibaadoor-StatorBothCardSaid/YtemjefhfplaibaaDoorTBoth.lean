
/-
  The walk of StatorBoth.
-/
import Derived.Test.YtemjefhfplaibaaDoorTAwk
import Derived.Test.YtemjefhfplaibaaDoorTRefF
namespace Go.Proofs.YtemjefhfplaibaaDoor
open Go.RowKit

/-- What two vectors of small parts come to together. -/
structure Both (c f : T3) (q m n t u z : Int) : Prop where
  hq : forceV c f = q
  hm : marginV c f = m
  hn : c.nrm * f.nrm = n
  ht : 3 * q * q = t
  hu : 4 * n = u
  hz : q * q = z
  q0 : -200000000 ≤ q
  q1 : q ≤ 200000000
  n0 : 0 ≤ n
  n1 : n ≤ 90000000000000000
  z0 : 0 ≤ z
  z1 : z ≤ 40000000000000000
  t3 : t = 3 * z
  tu : t ≤ u
  cs : (q ≤ 0 ∧ m = 0) ∨ (0 < q ∧ m = 2 ∧ n ≤ z) ∨ (0 < q ∧ m = 1 ∧ z ≤ n ∧ n ≤ t) ∨ (0 < q ∧ m = 0 ∧ z ≤ n ∧ t ≤ n)
theorem nrm_small {v : T3} (h : v.Bd 10000) : 0 ≤ v.nrm ∧ v.nrm ≤ 300000000 := by
  obtain ⟨a0, a1, b0, b1⟩ := h
  obtain ⟨m1, m2⟩ := mulB ⟨a0, a1⟩ ⟨a0, a1⟩
  obtain ⟨m3, m4⟩ := mulB ⟨a0, a1⟩ ⟨b0, b1⟩
  obtain ⟨m5, m6⟩ := mulB ⟨b0, b1⟩ ⟨b0, b1⟩
  have h0 := sq_nonneg (2 * v.a - v.b)
  have h1 := sq_nonneg v.b
  have e : (2 * v.a - v.b) * (2 * v.a - v.b) = 4 * (v.a * v.a) - 4 * (v.a * v.b) + v.b * v.b := by grind
  unfold T3.nrm
  omega
theorem turned_ok {c : T3} {s : Int} (h : c.Bd 10000) : okT (turned c s) = true := by
  have hi : (turned c s).In 20000 := h.to_in.turnN _
  have hb := hi.bd
  exact (okT_iff).2 ⟨⟨by have := hb.a0; omega, by have := hb.a1; omega⟩, by have := hb.b0; omega, by have := hb.b1; omega⟩
theorem both_of {c f : T3} (hc : c.Bd 10000) (hf : f.Bd 10000) : ∃ q m n t u z, Both c f q m n t u z := by
  obtain ⟨c0, c1⟩ := nrm_small hc
  obtain ⟨f0, f1⟩ := nrm_small hf
  have hn0 : 0 ≤ c.nrm * f.nrm := Int.mul_nonneg c0 f0
  have hn1 : c.nrm * f.nrm ≤ 300000000 * 300000000 := Int.mul_le_mul c1 f1 f0 (by omega)
  have hq : -200000000 ≤ forceV c f ∧ forceV c f ≤ 200000000 := by
    obtain ⟨a0, a1, b0, b1⟩ := hc
    obtain ⟨d0, d1, e0, e1⟩ := hf
    obtain ⟨m1, m2⟩ := mulB ⟨a0, a1⟩ ⟨e0, e1⟩
    obtain ⟨m3, m4⟩ := mulB ⟨b0, b1⟩ ⟨d0, d1⟩
    have e : forceV c f = c.b * f.a - c.a * f.b := by simp [forceV, prodV, T3.mul, T3.conj]; grind
    omega
  have hz := mulB hq hq
  have hz0 := sq_nonneg (forceV c f)
  have hp := nrm_prod c f
  have hP : (prodV c f).nrm = (prodV c f).a * (prodV c f).a - (prodV c f).a * forceV c f + forceV c f * forceV c f := rfl
  have hM : marginV c f = if forceV c f ≤ 0 then 0 else if max (2 * (prodV c f).a - forceV c f) (-(2 * (prodV c f).a - forceV c f)) ≤ forceV c f then 2 else if max (2 * (prodV c f).a - forceV c f) (-(2 * (prodV c f).a - forceV c f)) ≤ 3 * forceV c f then 1 else 0 := rfl
  rw [hp] at hP
  have e3 : 3 * forceV c f * forceV c f = 3 * (forceV c f * forceV c f) := by grind
  have hb := force_bound _ _ _ hP
  refine ⟨forceV c f, marginV c f, c.nrm * f.nrm, _, _, _, rfl, rfl, rfl, rfl, rfl, rfl, hq.1, hq.2, hn0, by omega, hz0, by omega, e3, by omega, ?_⟩
  by_cases h1 : forceV c f ≤ 0
  · exact .inl ⟨h1, by rw [hM, if_pos h1]⟩
  · by_cases h2 : max (2 * (prodV c f).a - forceV c f) (-(2 * (prodV c f).a - forceV c f)) ≤ forceV c f
    · exact .inr (.inl ⟨by omega, by rw [hM, if_neg h1, if_pos h2], close_bound _ _ _ hP (by omega) h2⟩)
    · have h3 := not_close _ _ _ hP (by omega) (Int.not_le.1 h2)
      by_cases h4 : max (2 * (prodV c f).a - forceV c f) (-(2 * (prodV c f).a - forceV c f)) ≤ 3 * forceV c f
      · exact .inr (.inr (.inl ⟨by omega, by rw [hM, if_neg h1, if_neg h2, if_pos h4], h3, by have := safe_bound _ _ _ hP (by omega) h4; omega⟩))
      · exact .inr (.inr (.inr ⟨by omega, by rw [hM, if_neg h1, if_neg h2, if_neg h4], h3, by have := not_safe _ _ _ hP (by omega) (Int.not_le.1 h4); omega⟩))

set_option maxHeartbeats 4000000 in
set_option maxRecDepth 100000 in
theorem StatorBoth_bad (c f : T3) (s : Int) (w : World) (hT : Tab w) (h : inB c.a (-10000) 10000 = false ∨ inB c.b (-10000) 10000 = false ∨ inB f.a (-10000) 10000 = false ∨ inB f.b (-10000) 10000 = false ∨ inB s (-100) 100 = false) : Calls Tryd.prog 4 #[(.agg #[.int .i64 c.a, .int .i64 c.b]), (.agg #[.int .i64 f.a, .int .i64 f.b]), .int .i64 s] w fun e w' => e = .returned (.bool true) ∧ Below w.heap.size w w' := by
  have F0 := Lib.hid (Fr.b2 w 24 #[.int .i64 c.a, .int .i64 c.b] 24 #[.int .i64 f.a, .int .i64 f.b])
  have T0 := Lib.hid ((hT.new (.cells #[.int .i64 c.a, .int .i64 c.b] 24)).new (.cells #[.int .i64 f.a, .int .i64 f.b] 24))
  clear hT
  have h' : inB c.a (-10000) 10000 = false ∨ (inB c.a (-10000) 10000 = true ∧ inB c.b (-10000) 10000 = false) ∨ (inB c.a (-10000) 10000 = true ∧ inB c.b (-10000) 10000 = true ∧ inB f.a (-10000) 10000 = false) ∨ (inB c.a (-10000) 10000 = true ∧ inB c.b (-10000) 10000 = true ∧ inB f.a (-10000) 10000 = true ∧ inB f.b (-10000) 10000 = false) ∨ (inB c.a (-10000) 10000 = true ∧ inB c.b (-10000) 10000 = true ∧ inB f.a (-10000) 10000 = true ∧ inB f.b (-10000) 10000 = true ∧ inB s (-100) 100 = false) := by
    cases h1 : inB c.a (-10000) 10000 <;> cases h2 : inB c.b (-10000) 10000 <;> cases h3 : inB f.a (-10000) 10000 <;> cases h4 : inB f.b (-10000) 10000 <;> cases h5 : inB s (-100) 100 <;> simp [h1, h2, h3, h4, h5] at h ⊢
  clear h
  rcases h' with h1 | ⟨h1, h2⟩ | ⟨h1, h2, h3⟩ | ⟨h1, h2, h3, h4⟩ | ⟨h1, h2, h3, h4, h5⟩
  all_goals
    go_enter Tryd.func4, Tryd.ntmps4
    go_wp2_with fail
    refine (awake_any _ T0.out).mono ?_
    rintro e w1 ⟨rfl, hb1⟩
    have G1 := Fr.call F0.out hb1
    obtain ⟨k0_0, k0_1, kf0, kg0⟩ := (G1.get 1 rfl).two
    have kz0 := (G1.get 1 rfl).lt
    obtain ⟨k1_0, k1_1, kf1, kg1⟩ := (G1.get 0 rfl).two
    have kz1 := (G1.get 0 rfl).lt
    have F1 : Hid (Fr w _ [(w.heap.size + 1, 24, #[.int .i64 f.a, .int .i64 f.b]), (w.heap.size, 24, #[.int .i64 c.a, .int .i64 c.b])]) := Lib.hid G1
    clear hb1 G1 F0
    go_wp2_with (go_at_call 23; refine (Within_any _ _ _ _).mono ?_; rintro e w' ⟨rfl, rfl⟩)
    go_ret
    exact ⟨rfl, F1.out.bl⟩

set_option maxHeartbeats 8000000 in
set_option maxRecDepth 100000 in
theorem StatorBoth_any (c f : T3) (s : Int) (w : World) (hT : Tab w) : Calls Tryd.prog 4 #[(.agg #[.int .i64 c.a, .int .i64 c.b]), (.agg #[.int .i64 f.a, .int .i64 f.b]), .int .i64 s] w fun e w' => e = .returned (.bool true) ∧ Below w.heap.size w w' := by
  by_cases hin : inB c.a (-10000) 10000 = false ∨ inB c.b (-10000) 10000 = false ∨ inB f.a (-10000) 10000 = false ∨ inB f.b (-10000) 10000 = false ∨ inB s (-100) 100 = false
  · exact StatorBoth_bad c f s w hT hin
  have h1 : inB c.a (-10000) 10000 = true := by cases h : inB c.a (-10000) 10000 <;> simp [h] at hin ⊢
  have h2 : inB c.b (-10000) 10000 = true := by cases h : inB c.b (-10000) 10000 <;> simp [h] at hin ⊢
  have h3 : inB f.a (-10000) 10000 = true := by cases h : inB f.a (-10000) 10000 <;> simp [h] at hin ⊢
  have h4 : inB f.b (-10000) 10000 = true := by cases h : inB f.b (-10000) 10000 <;> simp [h] at hin ⊢
  have h5 : inB s (-100) 100 = true := by cases h : inB s (-100) 100 <;> simp [h] at hin ⊢
  clear hin
  have c1 := (inB_iff).1 h1
  have c2 := (inB_iff).1 h2
  have f1 := (inB_iff).1 h3
  have f2 := (inB_iff).1 h4
  have s1 := (inB_iff).1 h5
  have hs : inB s (-1000000) 1000000 = true := (inB_iff).2 (by omega)
  have okc : okT c = true := (okT_iff).2 (by omega)
  have okf : okT f = true := (okT_iff).2 (by omega)
  have bdc : c.Bd 10000 := ⟨by omega, by omega, by omega, by omega⟩
  have bdf : f.Bd 10000 := ⟨by omega, by omega, by omega, by omega⟩
  have HBC := Lib.hid (bdc.more (K := 1000000000) (by omega))
  have HBF := Lib.hid (bdf.more (K := 1000000000) (by omega))
  have HTC : Hid (∀ w, Calls Tryd.prog 27 #[(.agg #[.int .i64 c.a, .int .i64 c.b]), .int .i64 s] w fun e w' => e = .returned (.tuple #[(.agg #[.int .i64 (turned c s).a, .int .i64 (turned c s).b]), .int .i64 0]) ∧ Below w.heap.size w w') := Lib.hid (Turned_ok c s okc hs)
  have HTF : Hid (∀ w, Calls Tryd.prog 27 #[(.agg #[.int .i64 f.a, .int .i64 f.b]), .int .i64 s] w fun e w' => e = .returned (.tuple #[(.agg #[.int .i64 (turned f s).a, .int .i64 (turned f s).b]), .int .i64 0]) ∧ Below w.heap.size w w') := Lib.hid (Turned_ok f s okf hs)
  have inc := turned_ok (s := s) bdc
  have inf := turned_ok (s := s) bdf
  have HV : Hid (vsE [c, f] = 0) := Lib.hid (by rw [vs2, if_pos ⟨okc, okf⟩])
  have HV2 : Hid (vsE [f, c] = 0) := Lib.hid (by rw [vs2, if_pos ⟨okf, okc⟩])
  have HV3 : Hid (vsE [turned c s, turned f s] = 0) := Lib.hid (by rw [vs2, if_pos ⟨inc, inf⟩])
  obtain ⟨q, m, n, t, u, z, hB⟩ := both_of bdc bdf
  have HQ := Lib.hid hB.hq
  have HS : Hid (forceV f c = -q) := Lib.hid (by rw [force_swap, hB.hq])
  have HM := Lib.hid hB.hm
  have HQ2 : Hid (forceV (turned c s) (turned f s) = q) := Lib.hid (by rw [← hB.hq]; unfold forceV; rw [prod_turned])
  have HM2 : Hid (marginV (turned c s) (turned f s) = m) := Lib.hid (by rw [← hB.hm]; unfold marginV; rw [prod_turned])
  have q0 := hB.q0
  have q1 := hB.q1
  have h6 : inB q (-400000000) 400000000 = true := (inB_iff).2 (by omega)
  have HB := Lib.hid hB
  clear hB okc okf bdc bdf inc inf c1 c2 f1 f2 s1 hs
  have F0 := Lib.hid (Fr.b2 w 24 #[.int .i64 c.a, .int .i64 c.b] 24 #[.int .i64 f.a, .int .i64 f.b])
  have T0 := Lib.hid ((hT.new (.cells #[.int .i64 c.a, .int .i64 c.b] 24)).new (.cells #[.int .i64 f.a, .int .i64 f.b] 24))
  clear hT
  go_enter Tryd.func4, Tryd.ntmps4
  go_wp2_with fail
  refine (awake_any _ T0.out).mono ?_
  rintro e w1 ⟨rfl, hb1⟩
  have G1 := Fr.call F0.out hb1
  obtain ⟨k0_0, k0_1, kf0, kg0⟩ := (G1.get 1 rfl).two
  have kz0 := (G1.get 1 rfl).lt
  obtain ⟨k1_0, k1_1, kf1, kg1⟩ := (G1.get 0 rfl).two
  have kz1 := (G1.get 0 rfl).lt
  have F1 : Hid (Fr w _ [(w.heap.size + 1, 24, #[.int .i64 f.a, .int .i64 f.b]), (w.heap.size, 24, #[.int .i64 c.a, .int .i64 c.b])]) := Lib.hid G1
  clear hb1 G1 F0
  go_wp2_with (go_at_call 23; refine (Within_any _ _ _ _).mono ?_; rintro e w' ⟨rfl, rfl⟩)
  refine (ForceOf_any c f _).mono ?_
  rintro e w2 ⟨rfl, hb2⟩
  rw [HV.out, HQ.out]
  clear k0_0 k0_1 kf0 kg0 kz0 k1_0 k1_1 kf1 kg1 kz1
  have G2 := Fr.call F1.out hb2
  obtain ⟨k0_0, k0_1, kf0, kg0⟩ := (G2.get 1 rfl).two
  have kz0 := (G2.get 1 rfl).lt
  obtain ⟨k1_0, k1_1, kf1, kg1⟩ := (G2.get 0 rfl).two
  have kz1 := (G2.get 0 rfl).lt
  have F2 : Hid (Fr w _ [(w.heap.size + 1, 24, #[.int .i64 f.a, .int .i64 f.b]), (w.heap.size, 24, #[.int .i64 c.a, .int .i64 c.b])]) := Lib.hid G2
  clear hb2 G2 F1
  go_wp2_with fail
  refine (MarginOf_any c f _).mono ?_
  rintro e w3 ⟨rfl, hb3⟩
  rw [HV.out, HM.out]
  clear k0_0 k0_1 kf0 kg0 kz0 k1_0 k1_1 kf1 kg1 kz1
  have G3 := Fr.call F2.out hb3
  obtain ⟨k0_0, k0_1, kf0, kg0⟩ := (G3.get 1 rfl).two
  have kz0 := (G3.get 1 rfl).lt
  obtain ⟨k1_0, k1_1, kf1, kg1⟩ := (G3.get 0 rfl).two
  have kz1 := (G3.get 0 rfl).lt
  have F3 : Hid (Fr w _ [(w.heap.size + 1, 24, #[.int .i64 f.a, .int .i64 f.b]), (w.heap.size, 24, #[.int .i64 c.a, .int .i64 c.b])]) := Lib.hid G3
  clear hb3 G3 F2
  go_wp2_with fail
  refine (ForceOf_any f c _).mono ?_
  rintro e w4 ⟨rfl, hb4⟩
  rw [HV2.out, HS.out]
  clear k0_0 k0_1 kf0 kg0 kz0 k1_0 k1_1 kf1 kg1 kz1
  have G4 := Fr.call F3.out hb4
  obtain ⟨k0_0, k0_1, kf0, kg0⟩ := (G4.get 1 rfl).two
  have kz0 := (G4.get 1 rfl).lt
  obtain ⟨k1_0, k1_1, kf1, kg1⟩ := (G4.get 0 rfl).two
  have kz1 := (G4.get 0 rfl).lt
  have F4 : Hid (Fr w _ [(w.heap.size + 1, 24, #[.int .i64 f.a, .int .i64 f.b]), (w.heap.size, 24, #[.int .i64 c.a, .int .i64 c.b])]) := Lib.hid G4
  clear hb4 G4 F3
  go_upto_region 10 with (go_at_call 23; refine (Within_any _ _ _ _).mono ?_; rintro e w' ⟨rfl, rfl⟩)
  clear h1 h2 h3 h4 h5 h6
  go_cut [13] from 90 to 94 (fun x W => x = .int .i64 n ∧ Fr w W [(w.heap.size + 1, 24, #[.int .i64 f.a, .int .i64 f.b]), (w.heap.size, 24, #[.int .i64 c.a, .int .i64 c.b])])
  case first =>
    have HALL : Hid (∀ W, Fr w W [(w.heap.size + 1, 24, #[.int .i64 f.a, .int .i64 f.b]), (w.heap.size, 24, #[.int .i64 c.a, .int .i64 c.b])] → Fr w W [(w.heap.size + 1, 24, #[.int .i64 f.a, .int .i64 f.b]), (w.heap.size, 24, #[.int .i64 c.a, .int .i64 c.b])] ∧ W.cell? ⟨w.heap.size, 0, none⟩ = some (.int .i64 c.a) ∧ W.cell? ⟨w.heap.size, 1, none⟩ = some (.int .i64 c.b) ∧ W.cell? ⟨w.heap.size + 1, 0, none⟩ = some (.int .i64 f.a) ∧ W.cell? ⟨w.heap.size + 1, 1, none⟩ = some (.int .i64 f.b)) := Lib.hid (fun W hW => ⟨hW, hW.at1.cell 0, hW.at1.cell 1, hW.top.cell 0, hW.top.cell 1⟩)
    have F10 : Fr w _ [(w.heap.size + 1, 24, #[.int .i64 f.a, .int .i64 f.b]), (w.heap.size, 24, #[.int .i64 c.a, .int .i64 c.b])] := F4.out
    obtain ⟨_, _, hn, ht, hu, hz, q0, q1, n0, n1, z0, z1, t3, tu, cs⟩ := HB.out
    have W5 : IntKind.i64.wrap (c.nrm * f.nrm) = n := by rw [hn]; exact IntWalk.i64_in _ ⟨by omega, by omega⟩
    clear hn ht hu hz HB cs z0 z1 t3 tu F4
    go_region_held3 (fun W => Fr w W [(w.heap.size + 1, 24, #[.int .i64 f.a, .int .i64 f.b]), (w.heap.size, 24, #[.int .i64 c.a, .int .i64 c.b])] ∧ W.cell? ⟨w.heap.size, 0, none⟩ = some (.int .i64 c.a) ∧ W.cell? ⟨w.heap.size, 1, none⟩ = some (.int .i64 c.b) ∧ W.cell? ⟨w.heap.size + 1, 0, none⟩ = some (.int .i64 f.a) ∧ W.cell? ⟨w.heap.size + 1, 1, none⟩ = some (.int .i64 f.b))
      ((go_split_ands; refine HALL.out _ ?_; (first | assumption | (repeat (first | assumption | refine Fr.new ?_ _ | refine Fr.drew ?_ | (refine Fr.set ?_ (by first | exact Nat.le_refl _ | omega | (simp; done) | (simp; omega)) (by first | (simp; done) | (simp; omega)) _))); done)))
      ((first
        | (go_at_call 26; go_split_ands; (with_reducible refine (TNorm_any c HBC.out _).mono ?_); rintro e w1 ⟨rfl, hb1⟩; have F4 := Fr.call (by assumption) hb1; clear hb1)
        | (go_at_call 26; go_split_ands; (with_reducible refine (TNorm_any f HBF.out _).mono ?_); rintro e w1 ⟨rfl, hb1⟩; have F4 := Fr.call (by assumption) hb1; clear hb1)
        | fail "arm"))
    all_goals
      go_split_ands
      go_wp2_with fail
      go_meet
      exact ⟨by first | rfl | rw [W5] | (simp only [W5]), by assumption⟩
  case rest =>
    obtain ⟨wx, rfl⟩ : ∃ W, W = wc := ⟨_, rfl⟩
    obtain ⟨rfl, hx⟩ := hcut
    have FC : Hid (Fr w _ [(w.heap.size + 1, 24, #[.int .i64 f.a, .int .i64 f.b]), (w.heap.size, 24, #[.int .i64 c.a, .int .i64 c.b])]) := Lib.hid hx
    clear k0_0 k0_1 kf0 kg0 kz0 k1_0 k1_1 kf1 kg1 kz1 hx F4
    go_upto_region 11 with fail
    go_cut [163] from 95 to 163 (fun y W => y = .bool false ∧ W = wx)
    case first =>
      obtain ⟨_, _, hn, ht, hu, hz, q0, q1, n0, n1, z0, z1, t3, tu, cs⟩ := HB.out
      obtain ⟨r, hr⟩ : ∃ r, 3 * q = r := ⟨_, rfl⟩
      rw [hr] at ht
      have W1 : IntKind.i64.wrap (3 * q) = r := by rw [hr]; exact IntWalk.i64_in _ ⟨by omega, by omega⟩
      have W2 : IntKind.i64.wrap (r * q) = t := by rw [ht]; exact IntWalk.i64_in _ ⟨by omega, by omega⟩
      have W3 : IntKind.i64.wrap (4 * n) = u := by rw [hu]; exact IntWalk.i64_in _ ⟨by omega, by omega⟩
      have W4 : IntKind.i64.wrap (q * q) = z := by rw [hz]; exact IntWalk.i64_in _ ⟨by omega, by omega⟩
      have X1 : wrap64 (3 * q) = r := by rw [hr]; exact IntWalk.wrap64_in _ ⟨by omega, by omega⟩
      have X2 : wrap64 (r * q) = t := by rw [ht]; exact IntWalk.wrap64_in _ ⟨by omega, by omega⟩
      have X3 : wrap64 (4 * n) = u := by rw [hu]; exact IntWalk.wrap64_in _ ⟨by omega, by omega⟩
      have X4 : wrap64 (q * q) = z := by rw [hz]; exact IntWalk.wrap64_in _ ⟨by omega, by omega⟩
      have D1 : ¬ (u < t) := by omega
      clear hn ht hu hz HB hr q0 q1 n0 n1 z0 z1 t3 tu
      have T1 : ¬ u < t := by omega
      rcases cs with ⟨k1, rfl⟩ | ⟨k1, rfl, k2⟩ | ⟨k1, rfl, k2, k3⟩ | ⟨k1, rfl, k2, k3⟩
      all_goals
        refine wp_region_lit ?_
        simp only [List.append]
        go_wp2_with fail
        go_meet
        exact ⟨by first | rfl | exact congrArg Value.bool (by simp only [Bool.or_eq_false_iff, decide_eq_false_iff_not]; omega), rfl⟩
    case rest =>
      obtain ⟨rfl, rfl⟩ := hcut
      obtain ⟨k0_0, k0_1, kf0, kg0⟩ := (FC.out.get 1 rfl).two
      have kz0 := (FC.out.get 1 rfl).lt
      obtain ⟨k1_0, k1_1, kf1, kg1⟩ := (FC.out.get 0 rfl).two
      have kz1 := (FC.out.get 0 rfl).lt
      go_wp2_with fail
      refine (HTC.out _).mono ?_
      rintro e w5 ⟨rfl, hb5⟩
      clear k0_0 k0_1 kf0 kg0 kz0 k1_0 k1_1 kf1 kg1 kz1
      have G5 := Fr.call FC.out hb5
      obtain ⟨k0_0, k0_1, kf0, kg0⟩ := (G5.get 1 rfl).two
      have kz0 := (G5.get 1 rfl).lt
      obtain ⟨k1_0, k1_1, kf1, kg1⟩ := (G5.get 0 rfl).two
      have kz1 := (G5.get 0 rfl).lt
      have F5 : Hid (Fr w _ [(w5.heap.size, 24, #[.int .i64 (turned c s).a, .int .i64 (turned c s).b]), (w.heap.size + 1, 24, #[.int .i64 f.a, .int .i64 f.b]), (w.heap.size, 24, #[.int .i64 c.a, .int .i64 c.b])]) := Lib.hid (Fr.box G5 24 #[.int .i64 (turned c s).a, .int .i64 (turned c s).b])
      clear hb5 G5 FC
      go_wp2_with fail
      refine (HTF.out _).mono ?_
      rintro e w6 ⟨rfl, hb6⟩
      clear k0_0 k0_1 kf0 kg0 kz0 k1_0 k1_1 kf1 kg1 kz1
      have G6 := Fr.call F5.out hb6
      obtain ⟨k0_0, k0_1, kf0, kg0⟩ := (G6.get 2 rfl).two
      have kz0 := (G6.get 2 rfl).lt
      obtain ⟨k1_0, k1_1, kf1, kg1⟩ := (G6.get 1 rfl).two
      have kz1 := (G6.get 1 rfl).lt
      obtain ⟨k2_0, k2_1, kf2, kg2⟩ := (G6.get 0 rfl).two
      have kz2 := (G6.get 0 rfl).lt
      have F6 : Hid (Fr w _ [(w6.heap.size, 24, #[.int .i64 (turned f s).a, .int .i64 (turned f s).b]), (w5.heap.size, 24, #[.int .i64 (turned c s).a, .int .i64 (turned c s).b]), (w.heap.size + 1, 24, #[.int .i64 f.a, .int .i64 f.b]), (w.heap.size, 24, #[.int .i64 c.a, .int .i64 c.b])]) := Lib.hid (Fr.box G6 24 #[.int .i64 (turned f s).a, .int .i64 (turned f s).b])
      clear hb6 G6 F5
      go_wp2_with fail
      refine (ForceOf_any (turned c s) (turned f s) _).mono ?_
      rintro e w7 ⟨rfl, hb7⟩
      rw [HV3.out, HQ2.out]
      clear k0_0 k0_1 kf0 kg0 kz0 k1_0 k1_1 kf1 kg1 kz1 k2_0 k2_1 kf2 kg2 kz2
      have G7 := Fr.call F6.out hb7
      obtain ⟨k0_0, k0_1, kf0, kg0⟩ := (G7.get 3 rfl).two
      have kz0 := (G7.get 3 rfl).lt
      obtain ⟨k1_0, k1_1, kf1, kg1⟩ := (G7.get 2 rfl).two
      have kz1 := (G7.get 2 rfl).lt
      obtain ⟨k2_0, k2_1, kf2, kg2⟩ := (G7.get 1 rfl).two
      have kz2 := (G7.get 1 rfl).lt
      obtain ⟨k3_0, k3_1, kf3, kg3⟩ := (G7.get 0 rfl).two
      have kz3 := (G7.get 0 rfl).lt
      have F7 : Hid (Fr w _ [(w6.heap.size, 24, #[.int .i64 (turned f s).a, .int .i64 (turned f s).b]), (w5.heap.size, 24, #[.int .i64 (turned c s).a, .int .i64 (turned c s).b]), (w.heap.size + 1, 24, #[.int .i64 f.a, .int .i64 f.b]), (w.heap.size, 24, #[.int .i64 c.a, .int .i64 c.b])]) := Lib.hid G7
      clear hb7 G7 F6
      go_wp2_with fail
      refine (MarginOf_any (turned c s) (turned f s) _).mono ?_
      rintro e w8 ⟨rfl, hb8⟩
      rw [HV3.out, HM2.out]
      clear k0_0 k0_1 kf0 kg0 kz0 k1_0 k1_1 kf1 kg1 kz1 k2_0 k2_1 kf2 kg2 kz2 k3_0 k3_1 kf3 kg3 kz3
      have G8 := Fr.call F7.out hb8
      obtain ⟨k0_0, k0_1, kf0, kg0⟩ := (G8.get 3 rfl).two
      have kz0 := (G8.get 3 rfl).lt
      obtain ⟨k1_0, k1_1, kf1, kg1⟩ := (G8.get 2 rfl).two
      have kz1 := (G8.get 2 rfl).lt
      obtain ⟨k2_0, k2_1, kf2, kg2⟩ := (G8.get 1 rfl).two
      have kz2 := (G8.get 1 rfl).lt
      obtain ⟨k3_0, k3_1, kf3, kg3⟩ := (G8.get 0 rfl).two
      have kz3 := (G8.get 0 rfl).lt
      have F8 : Hid (Fr w _ [(w6.heap.size, 24, #[.int .i64 (turned f s).a, .int .i64 (turned f s).b]), (w5.heap.size, 24, #[.int .i64 (turned c s).a, .int .i64 (turned c s).b]), (w.heap.size + 1, 24, #[.int .i64 f.a, .int .i64 f.b]), (w.heap.size, 24, #[.int .i64 c.a, .int .i64 c.b])]) := Lib.hid G8
      clear hb8 G8 F7
      go_wp2_with fail
      go_ret
      exact ⟨rfl, F8.out.bl⟩
end Go.Proofs.YtemjefhfplaibaaDoor
