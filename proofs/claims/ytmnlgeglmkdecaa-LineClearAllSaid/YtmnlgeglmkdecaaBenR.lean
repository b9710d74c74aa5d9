/-
  The walks of the reference's PoseErr and Beneath, and of Has.
-/
import Derived.Test.YtmnlgeglmkdecaaDevErr
import Derived.Test.YtmnlgeglmkdecaaPlAt
namespace Go.Proofs.Ytmnlgeglmkdecaa
open Go.RowKit

/-- A line's and a vehicle's box; the line in memory. -/
structure QV (w W : World) (L : Ll) (H : Hds) (v : Lv) : Prop where
  box : Bk W w.heap.size 26 #[.string L.name, .slice H.j.A L.js.length H.j.c, .slice H.b.A L.bs.length H.b.c, .slice H.s.A L.ss.length H.s.c]
  veh : Bk W (w.heap.size + 1) 77 #[.int .i64 v.len, .int .i64 v.clear, .int .i64 v.step]
  bl : Below w.heap.size w W
  ln : LnAt W w.heap.size L H
section
variable {w W W' : World} {L : Ll} {H : Hds} {v : Lv}
theorem QV.from (hb : Below W.heap.size W W') (h : QV w W L H v) : QV w W' L H v := ⟨h.box.call hb, h.veh.call hb, Below.step h.bl hb, h.ln.below (hb.mono h.bl.size)⟩
theorem QV.lnW (h : QV w W L H v) : LnAt W W.heap.size L H := h.ln.more h.bl.size
theorem QV.szA (h : QV w W L H v) (o : Obj) : w.heap.size + 2 ≤ (W.alloc o).heap.size := by have := h.veh.lt; simp; omega
theorem QV.grown {row : Option Nat} (h : QV w W L H v) (hg : W.grownBy W' row) (hr : ∀ q, row = some q → w.heap.size + 2 ≤ q) : QV w W' L H v :=
  ⟨(hg.block _ h.box.lt (fun e => by have := hr _ e.symm; omega)).trans h.box, (hg.block _ h.veh.lt (fun e => by have := hr _ e.symm; omega)).trans h.veh, h.bl.grown hg h.bl.size (fun q e => by have := hr q e; omega), h.ln.below ((Below.refl w.heap.size W).grown hg h.bl.size (fun q e => by have := hr q e; omega))⟩
theorem QV.alloc (h : QV w W L H v) (o : Obj) : QV w (W.alloc o) L H v := h.from ((Below.refl _ W).alloc (Nat.le_refl _) o)
theorem QV.drew (h : QV w W L H v) : QV w W.drew L H v := ⟨h.box, h.veh, h.bl.drew, h.ln.keep (fun _ _ => rfl)⟩
theorem QV.start (hA : LnAt w w.heap.size L H) : QV w ((w.alloc (.cells #[.string L.name, .slice H.j.A L.js.length H.j.c, .slice H.b.A L.bs.length H.b.c, .slice H.s.A L.ss.length H.s.c] 26)).alloc (.cells #[.int .i64 v.len, .int .i64 v.clear, .int .i64 v.step] 77)) L H v :=
  have b0 := ((Below.refl w.heap.size w).alloc (Nat.le_refl _) (.cells #[.string L.name, .slice H.j.A L.js.length H.j.c, .slice H.b.A L.bs.length H.b.c, .slice H.s.A L.ss.length H.s.c] 26)).alloc (by simp) (.cells #[.int .i64 v.len, .int .i64 v.clear, .int .i64 v.step] 77)
  ⟨(Bk.new w _ _).alloc _, Bk.new1 w _ _ _, b0, hA.below b0⟩
end

set_option maxHeartbeats 4000000 in
set_option maxRecDepth 100000 in
theorem PoseErr_at {L : Ll} (hr : Right L) {v : Lv} (hv : vErr v = 0) {p er : Int} (he : (if inB p 0 (placeL L.bs L.bs.length - v.len) && (p.tmod v.step == 0) then (0 : Int) else 6) = er) (H : Hds) (hL : L.ok) (w : World) (hA : LnAt w w.heap.size L H) :
    Calls Try.prog 56 #[(.agg #[.string L.name, .slice H.j.A L.js.length H.j.c, .slice H.b.A L.bs.length H.b.c, .slice H.s.A L.ss.length H.s.c]), (.agg #[.int .i64 v.len, .int .i64 v.clear, .int .i64 v.step]), .int .i64 p] w fun e w' => e = .returned (.int .i64 er) ∧ Below w.heap.size w w' := by
  have Q0 := Lib.hid (QV.start (v := v) hA)
  have HR := Lib.hid hr
  have h40 := hr.most
  obtain ⟨s1, s2⟩ := placeL_bound L.bs hr.b L.bs.length (Nat.le_refl _)
  obtain ⟨⟨l1, l2⟩, _, t1, t2⟩ := vErr_in hv
  obtain ⟨T, hT⟩ : ∃ T, placeL L.bs L.bs.length = T := ⟨_, rfl⟩
  rw [hT] at he s1 s2
  have HT := Lib.hid hT
  have u1 := IntWalk.i64_in (T - v.len) (by omega)
  clear hr hv hA hT
  cases hi : inB p 0 (T - v.len) with
  | false =>
    rw [hi] at he
    have HI := Lib.hid hi
    have HE := Lib.hid (show (6 : Int) = er from he)
    clear he hi
    go_enter Try.func56, Try.ntmps56
    go_wp2_with fail
    (first | go_region_with (first | (go_at_call 22; refine (refLengthOf_any HR.out H hL _ (QV.lnW (w := w) (v := v) (by first | exact Q0.out.drew | exact Q0.out))).mono ?_; rintro e w2 ⟨rfl, hb2⟩; rw [HT.out]; have Q2 : Hid (QV w w2 L H v) := Lib.hid (QV.from hb2 (by first | exact Q0.out.drew | exact Q0.out)); obtain ⟨q0, q1, q2⟩ := Q2.out.veh.three) | (go_at_call 34; refine (Within_any _ _ _ _).mono ?_; rintro e w' ⟨rfl, rfl⟩; rw [HI.out])) | fail "region")
    all_goals
      go_wp2_with fail
      go_ret
      exact ⟨ret_i64 HE.out, by first | exact Q2.out.bl | exact Q2.out.bl.drew | exact below_drewN Q2.out.bl _⟩
  | true =>
    obtain ⟨p0, p1⟩ := inB_iff.1 hi
    have hb1 := Int.emod_nonneg p (show v.step ≠ 0 by omega)
    have hb2 := Int.emod_lt_of_pos p (show 0 < v.step by omega)
    have hm1 : p.tmod v.step = p % v.step := Int.tmod_eq_emod_of_nonneg p0
    have gz : (v.step == 0) = false := by simp; omega
    have ur : IntKind.i64.wrap (p.tmod v.step) = p.tmod v.step := IntWalk.i64_in _ (by omega)
    have ur2 : IntKind.i64.wrap (p % v.step) = p % v.step := IntWalk.i64_in _ (by omega)
    have HI := Lib.hid hi
    cases hm : (p.tmod v.step == 0) with
    | false =>
      rw [hi, hm] at he
      have gm2 : (p.tmod v.step != 0) = true := by simpa using hm
      have gm : (p % v.step != 0) = true := by rw [← hm1]; exact gm2
      have HE := Lib.hid (show (6 : Int) = er from he)
      clear he hi hm hm1 hb1 hb2
      go_enter Try.func56, Try.ntmps56
      go_wp2_with fail
      (first | go_region_with (first | (go_at_call 22; refine (refLengthOf_any HR.out H hL _ (QV.lnW (w := w) (v := v) (by first | exact Q0.out.drew | exact Q0.out))).mono ?_; rintro e w2 ⟨rfl, hb2⟩; rw [HT.out]; have Q2 : Hid (QV w w2 L H v) := Lib.hid (QV.from hb2 (by first | exact Q0.out.drew | exact Q0.out)); obtain ⟨q0, q1, q2⟩ := Q2.out.veh.three) | (go_at_call 34; refine (Within_any _ _ _ _).mono ?_; rintro e w' ⟨rfl, rfl⟩; rw [HI.out])) | fail "region")
      all_goals
        go_wp2_with fail
        go_ret
        exact ⟨ret_i64 HE.out, by first | exact Q2.out.bl | exact Q2.out.bl.drew | exact below_drewN Q2.out.bl _⟩
    | true =>
      rw [hi, hm] at he
      have hm0 : p.tmod v.step = 0 := by simpa using hm
      have gm2 : (p.tmod v.step != 0) = false := by rw [hm0]; rfl
      have gm : (p % v.step != 0) = false := by rw [← hm1]; exact gm2
      have HE := Lib.hid (show (0 : Int) = er from he)
      clear he hi hm hm1 hb1 hb2 hm0
      go_enter Try.func56, Try.ntmps56
      go_wp2_with fail
      (first | go_region_with (first | (go_at_call 22; refine (refLengthOf_any HR.out H hL _ (QV.lnW (w := w) (v := v) (by first | exact Q0.out.drew | exact Q0.out))).mono ?_; rintro e w2 ⟨rfl, hb2⟩; rw [HT.out]; have Q2 : Hid (QV w w2 L H v) := Lib.hid (QV.from hb2 (by first | exact Q0.out.drew | exact Q0.out)); obtain ⟨q0, q1, q2⟩ := Q2.out.veh.three) | (go_at_call 34; refine (Within_any _ _ _ _).mono ?_; rintro e w' ⟨rfl, rfl⟩; rw [HI.out])) | fail "region")
      all_goals
        go_wp2_with fail
        go_ret
        exact ⟨ret_i64 HE.out, by first | exact Q2.out.bl | exact Q2.out.bl.drew | exact below_drewN Q2.out.bl _⟩

theorem QO {w W : World} {L : Ll} {H : Hds} {v : Lv} {B n : Nat} {s : Value} {xs : List Value} (h : QV w W L H v) (ho : W.ownsRow B 3 1 s n xs) : QV w W L H v ∧ W.ownsRow B 3 1 s n xs ∧ W.cell? ⟨w.heap.size, 0, none⟩ = some (.string L.name) ∧ W.cell? ⟨w.heap.size, 1, none⟩ = some (.slice H.j.A L.js.length H.j.c) ∧ W.cell? ⟨w.heap.size, 2, none⟩ = some (.slice H.b.A L.bs.length H.b.c) ∧ W.cell? ⟨w.heap.size, 3, none⟩ = some (.slice H.s.A L.ss.length H.s.c) ∧ W.cell? ⟨w.heap.size + 1, 0, none⟩ = some (.int .i64 v.len) ∧ W.cell? ⟨w.heap.size + 1, 1, none⟩ = some (.int .i64 v.clear) ∧ W.cell? ⟨w.heap.size + 1, 2, none⟩ = some (.int .i64 v.step) :=
  ⟨h, ho, h.box.cell 0, h.box.cell 1, h.box.cell 2, h.box.cell 3, h.veh.cell 0, h.veh.cell 1, h.veh.cell 2⟩

/-- The joints beneath a pose, of the first so many. -/
def benP (L : Ll) (v : Lv) (p : Int) (i : Nat) : Bool := inB (placeL L.bs i) (p + 1) (p + v.len - 1)
def benL (L : Ll) (v : Lv) (p : Int) (k : Nat) : List Int := ((List.range k).filter (benP L v p)).map Int.ofNat
theorem benL_len (L : Ll) (v : Lv) (p : Int) (k : Nat) : (benL L v p k).length ≤ k := by
  unfold benL
  rw [List.length_map]
  exact Nat.le_trans (List.length_filter_le _ _) (by simp)
theorem benL_yes {L : Ll} {v : Lv} {p : Int} {k : Nat} (h : benP L v p k = true) : benL L v p (k + 1) = benL L v p k ++ [(k : Int)] := by
  unfold benL
  rw [List.range_succ, List.filter_append, List.map_append]
  simp [h]
theorem benL_no {L : Ll} {v : Lv} {p : Int} {k : Nat} (h : benP L v p k = false) : benL L v p (k + 1) = benL L v p k := by
  unfold benL
  rw [List.range_succ, List.filter_append, List.map_append]
  simp [h]

set_option maxHeartbeats 4000000 in
set_option maxRecDepth 100000 in
theorem Beneath_any {L : Ll} (hr : Right L) {v : Lv} (hv : vErr v = 0) (p : Int) (p0 : 0 ≤ p) (p1 : p ≤ 2000000) (H : Hds) (hL : L.ok) (w : World) (hA : LnAt w w.heap.size L H) :
    Calls Try.prog 58 #[(.agg #[.string L.name, .slice H.j.A L.js.length H.j.c, .slice H.b.A L.bs.length H.b.c, .slice H.s.A L.ss.length H.s.c]), (.agg #[.int .i64 v.len, .int .i64 v.clear, .int .i64 v.step]), .int .i64 p] w fun e w' => ∃ g : Hd, e = .returned (.slice g.A (benL L v p L.js.length).length g.c) ∧ Lies w' w'.heap.size g.A (ic (benL L v p L.js.length)) ∧ Below w.heap.size w w' := by
  have Q0 := Lib.hid (QV.start (v := v) hA)
  have HR := Lib.hid hr
  have h40 := hr.most
  have HJB := Lib.hid hr.jb
  have hnj := hL.nj
  obtain ⟨⟨l1, l2⟩, _⟩ := vErr_in hv
  have u1 := IntWalk.i64_in (p + 1) (by omega)
  have u2 := IntWalk.i64_in (p + v.len) (by omega)
  have u3 := IntWalk.i64_in (p + v.len - 1) (by omega)
  clear hr hv hA
  go_enter Try.func58, Try.ntmps58
  go_wp2_with fail
  go_loopw [7, 8] (fun s i wr => ∃ k : Nat, k ≤ L.js.length ∧ i = .int .i64 k ∧ wr.ownsRow (w.heap.size + 2) 3 1 s (benL L v p k).length (ic (benL L v p k)) ∧ QV w wr L H v) (fun _ i _ => L.js.length - (intOf i).toNat)
  case atStart => exact ⟨0, Nat.zero_le _, rfl, World.ownsRow_nil _ _ _ _, Q0.out⟩
  case round =>
    clear Q0
    obtain ⟨k, hk, rfl, hown, hQ⟩ := hrel
    obtain ⟨gs, rfl, _, _, _⟩ := own_slice hown
    have HO := Lib.hid hown
    have Q1 := Lib.hid hQ
    clear hown hQ
    obtain ⟨c0, c1, c2, c3⟩ := Q1.out.box.four
    by_cases hlt : k < L.js.length
    · have hjb := HJB.out
      have k0 : (0 : Int) ≤ (k : Int) := by omega
      have k1 : (k : Int) ≤ (L.bs.length : Int) := by omega
      clear hjb
      have tk := IntWalk.i64_in ((k : Int) + 1) (by omega)
      cases hb : benP L v p k with
      | false =>
        have HB := Lib.hid (show inB (placeL L.bs k) (p + 1) (p + v.len - 1) = false from hb)
        have HL := Lib.hid (benL_no hb)
        clear hb
        go_wp2_with fail
        go_region_held3 (fun W => QV w W L H v ∧ W.ownsRow (w.heap.size + 2) 3 1 (.slice gs.A (benL L v p k).length gs.c) (benL L v p k).length (ic (benL L v p k)) ∧ W.cell? ⟨w.heap.size, 0, none⟩ = some (.string L.name) ∧ W.cell? ⟨w.heap.size, 1, none⟩ = some (.slice H.j.A L.js.length H.j.c) ∧ W.cell? ⟨w.heap.size, 2, none⟩ = some (.slice H.b.A L.bs.length H.b.c) ∧ W.cell? ⟨w.heap.size, 3, none⟩ = some (.slice H.s.A L.ss.length H.s.c) ∧ W.cell? ⟨w.heap.size + 1, 0, none⟩ = some (.int .i64 v.len) ∧ W.cell? ⟨w.heap.size + 1, 1, none⟩ = some (.int .i64 v.clear) ∧ W.cell? ⟨w.heap.size + 1, 2, none⟩ = some (.int .i64 v.step))
          ((go_split_ands; first | exact QO (by assumption) (by assumption) | exact QO (QV.from (by assumption) (by assumption)) (own_below (by assumption) (by assumption)) | exact QO Q1.out.drew HO.out | fail "keep"))
          ((first | (go_at_call 24; go_split_ands; refine (refPlaceOf_any HR.out H hL k k0 k1 _ (QV.lnW (w := w) (v := v) (by assumption))).mono ?_; rintro e w' ⟨rfl, hb⟩; rw [Int.toNat_natCast]) | (go_at_call 34; go_split_ands; refine (Within_any _ _ _ _).mono ?_; rintro e w' ⟨rfl, rfl⟩; rw [HB.out]) | fail "arm"))
        all_goals
          go_split_ands
          have QE : QV w _ L H v := (by assumption : QV w _ L H v)
          go_wp2_with fail
          go_roundw
          case rel => exact ⟨k + 1, by omega, by go_num, by rw [HL.out]; assumption, by assumption⟩
          case measure => simp [intOf]; omega
      | true =>
        have HB := Lib.hid (show inB (placeL L.bs k) (p + 1) (p + v.len - 1) = true from hb)
        have HL := Lib.hid (benL_yes hb)
        have hlen := benL_len L v p k
        obtain ⟨i1, hi, hz0, hz1, hz2⟩ := info_parts info_int
        clear hb
        go_wp2_with fail
        go_region_held3 (fun W => QV w W L H v ∧ W.ownsRow (w.heap.size + 2) 3 1 (.slice gs.A (benL L v p k).length gs.c) (benL L v p k).length (ic (benL L v p k)) ∧ W.cell? ⟨w.heap.size, 0, none⟩ = some (.string L.name) ∧ W.cell? ⟨w.heap.size, 1, none⟩ = some (.slice H.j.A L.js.length H.j.c) ∧ W.cell? ⟨w.heap.size, 2, none⟩ = some (.slice H.b.A L.bs.length H.b.c) ∧ W.cell? ⟨w.heap.size, 3, none⟩ = some (.slice H.s.A L.ss.length H.s.c) ∧ W.cell? ⟨w.heap.size + 1, 0, none⟩ = some (.int .i64 v.len) ∧ W.cell? ⟨w.heap.size + 1, 1, none⟩ = some (.int .i64 v.clear) ∧ W.cell? ⟨w.heap.size + 1, 2, none⟩ = some (.int .i64 v.step))
          ((go_split_ands; first | exact QO (by assumption) (by assumption) | exact QO (QV.from (by assumption) (by assumption)) (own_below (by assumption) (by assumption)) | exact QO Q1.out.drew HO.out | fail "keep"))
          ((first | (go_at_call 24; go_split_ands; refine (refPlaceOf_any HR.out H hL k k0 k1 _ (QV.lnW (w := w) (v := v) (by assumption))).mono ?_; rintro e w' ⟨rfl, hb⟩; rw [Int.toNat_natCast]) | (go_at_call 34; go_split_ands; refine (Within_any _ _ _ _).mono ?_; rintro e w' ⟨rfl, rfl⟩; rw [HB.out]) | fail "arm"))
        all_goals
          go_split_ands
          go_wp2_with (at_builtin; refine wpList_append_own _ rfl _ _ 67 rfl (w.heap.size + 2) 3 i1 (.int .i64 0) 1 8 Try.underlying67 hi hz0 hz1 hz2 rfl (by decide) _ _ _ rfl (own_below (by assumption) ((Below.refl _ _).alloc (Nat.le_refl _) _)) _ _ _ [.int .i64 (k : Int)] rfl rfl (Bk.new _ _ _).adds (fun u hu => by simp at hu; subst hu; rfl) (by unfold maxLen; omega) (by omega) (QV.szA (v := v) (by assumption) _) ?_)
          intro v' w7 o7 g7 _
          have q7 : Hid (QV w w7 L H v) := Lib.hid (QV.grown (QV.alloc (by assumption) _) g7 (fun q e => (HO.out.lt q e).1))
          have o8 : Hid (w7.ownsRow (w.heap.size + 2) 3 1 v' (benL L v p (k + 1)).length (ic (benL L v p (k + 1)))) := Lib.hid (by rw [HL.out, List.length_append, ic, List.map_append]; exact o7)
          clear o7 g7
          go_wp2_with fail
          go_roundw
          case rel => exact ⟨k + 1, by omega, by go_num, o8.out, q7.out⟩
          case measure => simp [intOf]; omega
    · obtain rfl : k = L.js.length := by omega
      clear hlt
      have hLs := (own_lies HO.out).1
      have HLs := Lib.hid hLs
      clear hLs
      go_wp2_with fail
      go_ret
      exact ⟨gs, rfl, HLs.out, Q1.out.bl⟩

set_option maxHeartbeats 1000000 in
theorem Has_any (l : List Int) (g : Hd) (x : Int) (hl : l.length ≤ 1000) (w : World) (hA : Lies w w.heap.size g.A (ic l)) :
    Calls Try.prog 57 #[.slice g.A l.length g.c, .int .i64 x] w fun e w' => e = .returned (.bool (decide (x ∈ l))) ∧ w = w' := by
  have HA := Lib.hid hA
  clear hA
  go_enter Try.func57, Try.ntmps57
  go_wp2_with fail
  go_loop [5] (fun i => ∃ k : Nat, k ≤ l.length ∧ i = .int .i64 k ∧ ∀ (i : Nat) (hi : i < k) (hl : i < l.length), l[i] ≠ x) (fun i => l.length - (intOf i).toNat)
  case atStart => exact ⟨0, Nat.zero_le _, rfl, fun i hi => absurd hi (by omega)⟩
  case round =>
    obtain ⟨k, hk, rfl, hz⟩ := hrel
    have HZ := Lib.hid hz
    clear hz
    by_cases hlt : k < l.length
    · obtain ⟨a, ha, _, j0⟩ := HA.out.num (List.getElem?_eq_getElem hlt)
      obtain ⟨A, c⟩ := g
      obtain rfl : A = some a := ha
      have hlt' : (k : Int) < (l.length : Int) := by omega
      have tk := IntWalk.i64_in ((k : Int) + 1) (by omega)
      obtain ⟨y, hy⟩ : ∃ y, l[k] = y := ⟨_, rfl⟩
      have HY := Lib.hid hy
      rw [hy] at j0
      clear hy
      by_cases hxy : y = x
      · have hr := Lib.hid (show decide (x ∈ l) = true from decide_eq_true (by rw [← hxy, ← HY.out]; exact List.getElem_mem hlt))
        have gx : (y == x) = true := by simp [hxy]
        clear hxy
        go_wp2_with fail
        go_ret
        exact ⟨ret_bool hr.out.symm, rfl⟩
      · have gx : (y == x) = false := by simp [hxy]
        have HN := Lib.hid hxy
        clear hxy
        go_wp2_with fail
        go_round
        case rel => exact ⟨k + 1, by omega, by go_num, fun i hi hl => if h : i = k then (by subst h; rw [HY.out]; exact HN.out) else HZ.out i (by omega) hl⟩
        case measure => simp [intOf]; omega
    · have hr := Lib.hid (show decide (x ∈ l) = false from decide_eq_false (fun h => by
        obtain ⟨i, hi, he⟩ := List.getElem_of_mem h
        exact HZ.out i (by omega) hi he))
      clear HZ
      go_wp2_with fail
      go_ret
      exact ⟨ret_bool hr.out.symm, rfl⟩
end Go.Proofs.Ytmnlgeglmkdecaa
