
/-
  The walks of the functions of vectors and phases.
-/
import Derived.Test.YtohldmmfnjfgmaaDoorTRefF
namespace Go.Proofs.YtohldmmfnjfgmaaDoor
open Go.RowKit

theorem vE_ok {v : T3} (h : okT v = true) : vE v = 0 := by unfold vE; rw [if_pos h]
theorem vE_bad {v : T3} (h : okT v = false) : vE v = 2 := by unfold vE; rw [if_neg (by rw [h]; simp)]
theorem Lies.bk1 {w : World} {g : Nat} {t : TypeId} {a : Value} (h : Bk w g t #[a]) : Lies w w.heap.size (some ⟨g, 0, none⟩) [a] := fun j u hu => by
  match j with
  | 0 => exact ⟨_, rfl, h.lt, by have := h.cell 0; simp at hu; subst hu; exact this⟩
  | j + 1 => simp at hu
theorem Lies.bk3 {w : World} {g : Nat} {t : TypeId} {a b c : Value} (h : Bk w g t #[a, b, c]) : Lies w w.heap.size (some ⟨g, 0, none⟩) [a, b, c] := fun j u hu => by
  match j with
  | 0 => exact ⟨_, rfl, h.lt, by have := h.cell 0; simp at hu; subst hu; exact this⟩
  | 1 => exact ⟨_, rfl, h.lt, by have := h.cell 1; simp at hu; subst hu; exact this⟩
  | 2 => exact ⟨_, rfl, h.lt, by have := h.cell 2; simp at hu; subst hu; exact this⟩
  | j + 3 => simp at hu
theorem szE_one (m x : Int) : szE m [x] = if inB x (-m) m = true then 0 else 2 := by unfold szE; simp

set_option maxHeartbeats 1000000 in
theorem Turned_bad (v : T3) (s : Int) (h : okT v = false ∨ inB s (-1000000) 1000000 = false) (w : World) : Calls Tryd.prog 53 #[(.agg #[.int .i64 v.a, .int .i64 v.b]), .int .i64 s] w fun e w' => e = .returned (.tuple #[.agg #[.int .i64 0, .int .i64 0], .int .i64 2]) ∧ Below w.heap.size w w' := by
  have F0 := Lib.hid (Fr.b2 w 24 #[.int .i64 v.a, .int .i64 v.b] 24 #[.int .i64 0, .int .i64 0])
  cases hv : okT v with
  | false =>
    have he := Lib.hid (vE_bad hv)
    clear h hv
    go_enter Tryd.func53, Tryd.ntmps53
    go_wp2_with fail
    refine (checkVector_any v _).mono ?_
    rintro e w1 ⟨rfl, hb1⟩
    rw [he.out]
    have F1 := Lib.hid (F0.out.call hb1)
    obtain ⟨d0, d1, f0, f1⟩ := F1.out.top.two
    clear hb1 F0
    go_wp2_with fail
    exact bodyPost_ret (v := .tuple #[.agg #[.int .i64 0, .int .i64 0], .int .i64 2]) (by simp [results, Tryd.results53, go_sem, d0, d1]) rfl ⟨rfl, (F1.out.bl.setCell (by simp) _).setCell (by simp) _⟩
  | true =>
    have hs : inB s (-1000000) 1000000 = false := by rcases h with h | h; (rw [hv] at h; cases h); exact h
    have he := Lib.hid (vE_ok hv)
    have hz : Hid (szE 1000000 [s] = 2) := Lib.hid (by rw [szE_one, if_neg (by rw [hs]; simp)])
    clear h hv hs
    go_enter Tryd.func53, Tryd.ntmps53
    go_wp2_with fail
    refine (checkVector_any v _).mono ?_
    rintro e w1 ⟨rfl, hb1⟩
    rw [he.out]
    have F1 := Lib.hid (F0.out.call hb1)
    obtain ⟨d0, d1, f0, f1⟩ := F1.out.top.two
    have z0 := F1.out.at1.lt
    have z1 := F1.out.top.lt
    clear hb1 F0
    have L1 := Lib.hid (Lies.bk1 (Bk.new w1 3 #[.int .i64 s]))
    go_wp2_with fail
    refine (checkSizes_any 1000000 (by omega) [s] _ _ (by simp [maxLen]) _ L1.out).mono ?_
    rintro e w2 ⟨rfl, rfl⟩
    rw [hz.out]
    go_wp2_with fail
    exact bodyPost_ret (v := .tuple #[.agg #[.int .i64 0, .int .i64 0], .int .i64 2]) (by simp [results, Tryd.results53, go_sem, d0, d1, z1, Nat.ne_of_lt z1]) rfl ⟨rfl, (by repeat (first | exact F1.out.bl | refine Below.drew ?_ | refine Below.setCell ?_ (by first | (simp; done) | (simp; omega) | omega) _ | refine Below.alloc ?_ (by first | (simp; done) | (simp; omega) | omega) _ | exact Below.refl _ _))⟩

set_option maxHeartbeats 1000000 in
theorem Turned_ok (v : T3) (s : Int) (hv : okT v = true) (hs : inB s (-1000000) 1000000 = true) (w : World) : Calls Tryd.prog 53 #[(.agg #[.int .i64 v.a, .int .i64 v.b]), .int .i64 s] w fun e w' => e = .returned (.tuple #[(.agg #[.int .i64 (turned v s).a, .int .i64 (turned v s).b]), .int .i64 0]) ∧ Below w.heap.size w w' := by
  have F0 := Lib.hid (Fr.b2 w 24 #[.int .i64 v.a, .int .i64 v.b] 24 #[.int .i64 0, .int .i64 0])
  have he := Lib.hid (vE_ok hv)
  have hz : Hid (szE 1000000 [s] = 0) := Lib.hid (by rw [szE_one, if_pos hs])
  have HI := Lib.hid ((okT_in hv).more (K := 1000000000000) (by omega))
  clear hv hs
  go_enter Tryd.func53, Tryd.ntmps53
  go_wp2_with fail
  refine (checkVector_any v _).mono ?_
  rintro e w1 ⟨rfl, hb1⟩
  rw [he.out]
  have F1 := Lib.hid (F0.out.call hb1)
  obtain ⟨c0, c1, _, _⟩ := F1.out.at1.two
  have z0 := F1.out.at1.lt
  have z1 := F1.out.top.lt
  clear hb1 F0
  have L1 := Lib.hid (Lies.bk1 (Bk.new w1 3 #[.int .i64 s]))
  go_wp2_with fail
  refine (checkSizes_any 1000000 (by omega) [s] _ _ (by simp [maxLen]) _ L1.out).mono ?_
  rintro e w2 ⟨rfl, rfl⟩
  rw [hz.out]
  go_wp2_with fail
  refine (turned_any v s HI.out _).mono ?_
  rintro e w3 ⟨rfl, hb3⟩
  have F3 := Lib.hid ((F1.out.new _).call hb3)
  obtain ⟨d0, d1, f0, f1⟩ := F3.out.top.two
  clear hb3 F1 c0 c1
  go_wp2_with fail
  exact bodyPost_ret (v := .tuple #[(.agg #[.int .i64 (turned v s).a, .int .i64 (turned v s).b]), .int .i64 0]) (by simp [results, Tryd.results53, go_sem, d0, d1]) rfl ⟨rfl, (F3.out.bl.setCell (by simp) _).setCell (by simp) _⟩

set_option maxHeartbeats 400000 in
theorem phases_any (v : T3) (h : v.Bd 1000000000) (w : World) : Calls Tryd.prog 63 #[(.agg #[.int .i64 v.a, .int .i64 v.b])] w fun e w' => e = .returned (.agg #[.int .i64 (2 * v.a - v.b), .int .i64 (2 * v.b - v.a), .int .i64 (-v.a - v.b)]) ∧ Below w.heap.size w w' := by
  obtain ⟨a0, a1, b0, b1⟩ := h
  go_enter Tryd.func63, Tryd.ntmps63
  go_wp2
  exact bodyPost_ret (v := .agg #[.int .i64 (2 * v.a - v.b), .int .i64 (2 * v.b - v.a), .int .i64 (-v.a - v.b)]) (by simp [results, Tryd.results63, go_sem]) rfl ⟨rfl, box2 w _ _ _ _⟩
set_option maxHeartbeats 400000 in
theorem refVectorOf_any (x y z : Int) (hx : -1000000000 ≤ x ∧ x ≤ 1000000000) (hy : -1000000000 ≤ y ∧ y ≤ 1000000000) (hz : -1000000000 ≤ z ∧ z ≤ 1000000000) (w : World) : Calls Tryd.prog 61 #[.agg #[.int .i64 x, .int .i64 y, .int .i64 z]] w fun e w' => e = .returned (.agg #[.int .i64 (x - z), .int .i64 (y - z)]) ∧ Below w.heap.size w w' := by
  obtain ⟨a0, a1⟩ := hx
  obtain ⟨b0, b1⟩ := hy
  obtain ⟨c0, c1⟩ := hz
  go_enter Tryd.func61, Tryd.ntmps61
  go_wp2
  exact bodyPost_ret (v := .agg #[.int .i64 (x - z), .int .i64 (y - z)]) (by simp [results, Tryd.results61, go_sem]) rfl ⟨rfl, box2 w _ _ _ _⟩

set_option maxHeartbeats 400000 in
theorem PhasesErr_any (x y z : Int) (w : World) : Calls Tryd.prog 40 #[.agg #[.int .i64 x, .int .i64 y, .int .i64 z]] w fun e w' => e = .returned (.int .i64 (szE 100000 [x, y, z])) ∧ Below w.heap.size w w' := by
  have B0 := Lib.hid (box1 w #[.int .i64 x, .int .i64 y, .int .i64 z] 73)
  have L0 := Lib.hid (Lies.bk3 (Bk.new w 73 #[.int .i64 x, .int .i64 y, .int .i64 z]))
  go_enter Tryd.func40, Tryd.ntmps40
  go_wp2_with fail
  refine (numbersErr_any [x, y, z] _ _ (by simp [maxLen]) _ L0.out).mono ?_
  rintro e w' ⟨rfl, rfl⟩
  go_wp2_with fail
  go_ret
  exact ⟨rfl, B0.out⟩

/-- Are three phases right? -/
def okP (x y z : Int) : Bool := inB x (-100000) 100000 && inB y (-100000) 100000 && inB z (-100000) 100000
theorem szE_three {x y z : Int} : szE 100000 [x, y, z] = if okP x y z = true then 0 else 2 := by unfold szE okP; simp [and_assoc]
theorem okP_iff {x y z : Int} : okP x y z = true ↔ (-100000 ≤ x ∧ x ≤ 100000) ∧ (-100000 ≤ y ∧ y ≤ 100000) ∧ -100000 ≤ z ∧ z ≤ 100000 := by simp [okP, inB_iff, and_assoc]

set_option maxHeartbeats 1000000 in
theorem VectorOf_bad (x y z : Int) (h : okP x y z = false) (w : World) : Calls Tryd.prog 42 #[.agg #[.int .i64 x, .int .i64 y, .int .i64 z]] w fun e w' => e = .returned (.tuple #[.agg #[.int .i64 0, .int .i64 0], .int .i64 2]) ∧ Below w.heap.size w w' := by
  have F0 := Lib.hid (Fr.b2 w 73 #[.int .i64 x, .int .i64 y, .int .i64 z] 24 #[.int .i64 0, .int .i64 0])
  have L0 := Lib.hid (Lies.new (Lies.bk3 (Bk.new w 73 #[.int .i64 x, .int .i64 y, .int .i64 z])) (.cells #[.int .i64 0, .int .i64 0] 24))
  have he : Hid (szE 100000 [x, y, z] = 2) := Lib.hid (by rw [szE_three, if_neg (by rw [h]; simp)])
  clear h
  go_enter Tryd.func42, Tryd.ntmps42
  go_wp2_with fail
  refine (checkSizes_any 100000 (by omega) [x, y, z] _ _ (by simp [maxLen]) _ L0.out).mono ?_
  rintro e w' ⟨rfl, rfl⟩
  rw [he.out]
  go_wp2_with fail
  exact bodyPost_ret (v := .tuple #[.agg #[.int .i64 0, .int .i64 0], .int .i64 2]) (by simp [results, Tryd.results42, go_sem]) rfl ⟨rfl, box2 w _ _ _ _⟩

set_option maxHeartbeats 1000000 in
theorem VectorOf_ok (x y z : Int) (h : okP x y z = true) (w : World) : Calls Tryd.prog 42 #[.agg #[.int .i64 x, .int .i64 y, .int .i64 z]] w fun e w' => e = .returned (.tuple #[.agg #[.int .i64 (x - z), .int .i64 (y - z)], .int .i64 0]) ∧ Below w.heap.size w w' := by
  have L0 := Lib.hid (Lies.new (Lies.bk3 (Bk.new w 73 #[.int .i64 x, .int .i64 y, .int .i64 z])) (.cells #[.int .i64 0, .int .i64 0] 24))
  have he : Hid (szE 100000 [x, y, z] = 0) := Lib.hid (by rw [szE_three, if_pos h])
  obtain ⟨⟨a0, a1⟩, ⟨b0, b1⟩, c0, c1⟩ := okP_iff.1 h
  clear h
  go_enter Tryd.func42, Tryd.ntmps42
  go_wp2_with fail
  refine (checkSizes_any 100000 (by omega) [x, y, z] _ _ (by simp [maxLen]) _ L0.out).mono ?_
  rintro e w' ⟨rfl, rfl⟩
  rw [he.out]
  go_wp2_with fail
  exact bodyPost_ret (v := .tuple #[.agg #[.int .i64 (x - z), .int .i64 (y - z)], .int .i64 0]) (by simp [results, Tryd.results42, go_sem]) rfl ⟨rfl, box2 w _ _ _ _⟩

end Go.Proofs.YtohldmmfnjfgmaaDoor
