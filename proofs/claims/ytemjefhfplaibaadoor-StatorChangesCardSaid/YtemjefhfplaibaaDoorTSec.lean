
/-
  The walks of SizeOf and SectorOf, the program's and the reference's.
-/
import Derived.Test.YtemjefhfplaibaaDoorTRoot
namespace Go.Proofs.YtemjefhfplaibaaDoor
open Go.RowKit

theorem rootLo_dn {n : Int} {d u : Nat} (h : IsDn n d) (g : IsUp n u) : rootLo n u = d := by
  have e : u = if (d : Int) * d < n then d + 1 else d := g.unique (IsUp.of_dn h)
  unfold rootLo
  have h1 := h.1
  have h2 := h.2
  split at e
  · subst e
    rw [if_neg (by push_cast; omega)]
    push_cast
    omega
  · subst e
    rw [if_pos (by omega)]
theorem nrm_nonneg (v : T3) : 0 ≤ v.nrm := by
  have h := four_nrm v.a v.b
  have h1 := sq_nonneg (2 * v.a - v.b)
  have h2 := sq_nonneg v.b
  unfold T3.nrm
  omega
theorem nrm_bound {v : T3} {M : Int} (h : v.Bd M) : v.nrm ≤ 3 * (M * M) := by
  obtain ⟨a0, a1, b0, b1⟩ := h
  have := mulB ⟨a0, a1⟩ ⟨a0, a1⟩
  have := mulB ⟨a0, a1⟩ ⟨b0, b1⟩
  have := mulB ⟨b0, b1⟩ ⟨b0, b1⟩
  unfold T3.nrm
  omega
theorem size_up {v : T3} (h : okT v = true) : ∃ d u : Nat, IsDn v.nrm d ∧ IsUp v.nrm u ∧ u ≤ 200000 := by
  have hb := nrm_bound (okT_bd h)
  have h0 := nrm_nonneg v
  obtain ⟨d, hd⟩ := dn_exists 200000 v.nrm h0 (by omega)
  have hu := IsUp.of_dn hd
  refine ⟨d, _, hd, hu, ?_⟩
  exact (hu.iff 200000).1 (by omega)

set_option maxHeartbeats 1000000 in
theorem SizeOf_bad (v : T3) (h : okT v = false) (w : World) : Calls Tryd.prog 15 #[(.agg #[.int .i64 v.a, .int .i64 v.b])] w fun e w' => e = .returned (.tuple #[.agg #[.int .i64 0, .int .i64 0], .int .i64 2]) ∧ Below w.heap.size w w' := by
  have F0 := Lib.hid (Fr.b2 w 24 #[.int .i64 v.a, .int .i64 v.b] 32 #[.int .i64 0, .int .i64 0])
  have he := Lib.hid (vE_bad h)
  clear h
  go_enter Tryd.func15, Tryd.ntmps15
  go_wp2_with fail
  refine (checkVector_any v _).mono ?_
  rintro e w1 ⟨rfl, hb1⟩
  rw [he.out]
  have F1 := Lib.hid (F0.out.call hb1)
  obtain ⟨d0, d1, f0, f1⟩ := F1.out.top.two
  clear hb1 F0
  go_wp2_with fail
  exact bodyPost_ret (v := .tuple #[.agg #[.int .i64 0, .int .i64 0], .int .i64 2]) (by simp [results, Tryd.results15, go_sem, d0, d1]) rfl ⟨rfl, (by repeat (first | exact F1.out.bl | refine Below.drew ?_ | refine Below.setCell ?_ (by first | (simp; done) | (simp; omega) | omega) _ | refine Below.alloc ?_ (by first | (simp; done) | (simp; omega) | omega) _ | exact Below.refl _ _))⟩
set_option maxHeartbeats 1000000 in
theorem SizeOf_ok (v : T3) (u : Nat) (h : okT v = true) (hu : IsUp v.nrm u) (hm : u ≤ 200000) (w : World) : Calls Tryd.prog 15 #[(.agg #[.int .i64 v.a, .int .i64 v.b])] w fun e w' => e = .returned (.tuple #[.agg #[.int .i64 (rootLo v.nrm u), .int .i64 u], .int .i64 0]) ∧ Below w.heap.size w w' := by
  have F0 := Lib.hid (Fr.b2 w 24 #[.int .i64 v.a, .int .i64 v.b] 32 #[.int .i64 0, .int .i64 0])
  have he := Lib.hid (vE_ok h)
  have HB := Lib.hid ((okT_bd h).more (K := 1000000000) (by omega))
  have HU := Lib.hid hu
  clear h hu
  go_enter Tryd.func15, Tryd.ntmps15
  go_wp2_with fail
  refine (checkVector_any v _).mono ?_
  rintro e w1 ⟨rfl, hb1⟩
  rw [he.out]
  have F1 := Lib.hid (F0.out.call hb1)
  obtain ⟨c0, c1, _, _⟩ := F1.out.at1.two
  clear hb1 F0
  go_wp2_with fail
  refine (square_any v HB.out _).mono ?_
  rintro e w2 ⟨rfl, hb2⟩
  have F2 := Lib.hid (F1.out.call hb2)
  clear hb2 F1 c0 c1
  go_wp2_with fail
  refine (root_any v.nrm u 200000 (by omega) HU.out hm _).mono ?_
  rintro e w3 ⟨rfl, hb3⟩
  have F3 := Lib.hid (F2.out.call hb3)
  obtain ⟨d0, d1, f0, f1⟩ := F3.out.top.two
  clear hb3 F2
  go_wp2_with fail
  exact bodyPost_ret (v := .tuple #[.agg #[.int .i64 (rootLo v.nrm u), .int .i64 u], .int .i64 0]) (by simp [results, Tryd.results15, go_sem, d0, d1]) rfl ⟨rfl, (by repeat (first | exact F3.out.bl | refine Below.drew ?_ | refine Below.setCell ?_ (by first | (simp; done) | (simp; omega) | omega) _ | refine Below.alloc ?_ (by first | (simp; done) | (simp; omega) | omega) _ | exact Below.refl _ _))⟩

set_option maxHeartbeats 2000000 in
set_option maxRecDepth 100000 in
theorem refSizeOf_any (v : T3) (d u : Nat) (h : okT v = true) (hd : IsDn v.nrm d) (hu : IsUp v.nrm u) (w : World) : Calls Tryd.prog 21 #[(.agg #[.int .i64 v.a, .int .i64 v.b])] w fun e w' => e = .returned (.agg #[.int .i64 d, .int .i64 u]) ∧ Below w.heap.size w w' := by
  have HB := Lib.hid ((okT_bd h).more (K := 1000000000) (by omega))
  have HN : Hid (0 ≤ v.nrm ∧ v.nrm ≤ 1000000000000) := Lib.hid ⟨nrm_nonneg v, by have := nrm_bound (okT_bd h); omega⟩
  have HD := Lib.hid hd
  have HU := Lib.hid hu
  have F0 := Lib.hid (Fr.b1 w 24 #[.int .i64 v.a, .int .i64 v.b])
  have N0 := Lib.hid (Bk.new1 w (.cells #[.int .i64 v.a, .int .i64 v.b] 24) 32 #[.int .i64 0, .int .i64 0])
  clear h hd hu
  go_enter Tryd.func21, Tryd.ntmps21
  go_wp2_with fail
  refine wp_abs ?_
  intro w3 h3
  have F3 : Fr w w3 [(w.heap.size, 24, #[.int .i64 v.a, .int .i64 v.b])] := by subst h3; exact F0.out.new _
  have N3 : Hid (Bk w3 (w.heap.size + 1) 32 #[.int .i64 0, .int .i64 0]) := Lib.hid (by subst h3; exact N0.out)
  have HALL : Hid (∀ W, Fr w W [(w.heap.size, 24, #[.int .i64 v.a, .int .i64 v.b])] → Fr w W [(w.heap.size, 24, #[.int .i64 v.a, .int .i64 v.b])] ∧ W.cell? ⟨w.heap.size, 0, none⟩ = some (.int .i64 v.a) ∧ W.cell? ⟨w.heap.size, 1, none⟩ = some (.int .i64 v.b)) := Lib.hid (fun W hW => ⟨hW, hW.top.cell 0, hW.top.cell 1⟩)
  clear h3 F0 N0
  go_region_held3 (fun W => Fr w W [(w.heap.size, 24, #[.int .i64 v.a, .int .i64 v.b])] ∧ W.cell? ⟨w.heap.size, 0, none⟩ = some (.int .i64 v.a) ∧ W.cell? ⟨w.heap.size, 1, none⟩ = some (.int .i64 v.b))
    ((go_split_ands; refine HALL.out _ ?_; (first | assumption | (repeat (first | assumption | refine Fr.new ?_ _ | refine Fr.drew ?_ | (refine Fr.set ?_ (by first | exact Nat.le_refl _ | omega | (simp; done) | (simp; omega)) (by first | (simp; done) | (simp; omega)) _))); done)))
    ((first
      | (go_at_call 26; go_split_ands; (with_reducible refine (TNorm_any v HB.out _).mono ?_); rintro e w1 ⟨rfl, hb1⟩; have F4 := Fr.call (by assumption) hb1; (first | (have N4 := Bk.call (Hid.out (by assumption : Hid (Bk _ _ 32 #[.int .i64 0, .int .i64 0]))) hb1; obtain ⟨n0, n1, n2, n3⟩ := N4.two; have N5 := Lib.hid N4; clear N4) | (have N4 := Bk.call (Bk.drew N3.out) hb1; obtain ⟨n0, n1, n2, n3⟩ := N4.two; have N5 := Lib.hid N4; clear N4) | fail "box"); clear hb1)
      | (go_at_call 71; go_split_ands; (with_reducible refine (Root_any v.nrm d HN.out HD.out _).mono ?_); rintro e w1 ⟨rfl, rfl⟩)
      | (go_at_call 72; go_split_ands; (with_reducible refine (RootUp_any v.nrm d u HN.out HD.out HU.out _).mono ?_); rintro e w1 ⟨rfl, rfl⟩)
      | fail "arm"))
  all_goals
    go_split_ands
    go_wp2_with fail
    exact bodyPost_ret (v := .agg #[.int .i64 d, .int .i64 u]) (by simp [results, Tryd.results21, go_sem, n0, n1]) rfl ⟨rfl, (by assumption : Fr w _ _).bl⟩

set_option maxHeartbeats 1000000 in
theorem SectorOf_bad (v : T3) (h : okT v = false) (w : World) : Calls Tryd.prog 16 #[(.agg #[.int .i64 v.a, .int .i64 v.b])] w fun e w' => e = .returned (.tuple #[.int .i64 0, .int .i64 2]) ∧ Below w.heap.size w w' := by
  have B0 := Lib.hid (box1 w #[.int .i64 v.a, .int .i64 v.b] 24)
  have he := Lib.hid (vE_bad h)
  clear h
  go_enter Tryd.func16, Tryd.ntmps16
  go_wp2_with fail
  refine (checkVector_any v _).mono ?_
  rintro e w1 ⟨rfl, hb1⟩
  rw [he.out]
  have B1 := Lib.hid (Below.step B0.out hb1)
  clear hb1
  go_wp2_with fail
  go_ret2
  exact ⟨rfl, B1.out⟩
set_option maxHeartbeats 1000000 in
theorem SectorOf_zero (w : World) : Calls Tryd.prog 16 #[.agg #[.int .i64 0, .int .i64 0]] w fun e w' => e = .returned (.tuple #[.int .i64 0, .int .i64 11]) ∧ Below w.heap.size w w' := by
  have F0 := Lib.hid (Fr.b1 w 24 #[.int .i64 0, .int .i64 0])
  have he : Hid (vE ⟨0, 0⟩ = 0) := Lib.hid (by decide)
  go_enter Tryd.func16, Tryd.ntmps16
  go_wp2_with fail
  refine (checkVector_any ⟨0, 0⟩ _).mono ?_
  rintro e w1 ⟨rfl, hb1⟩
  rw [he.out]
  have F1 := Lib.hid (F0.out.call hb1)
  obtain ⟨c0, c1, _, _⟩ := F1.out.top.two
  clear hb1
  go_wp2_with fail
  go_ret2
  exact ⟨rfl, F1.out.bl⟩
end Go.Proofs.YtemjefhfplaibaaDoor
