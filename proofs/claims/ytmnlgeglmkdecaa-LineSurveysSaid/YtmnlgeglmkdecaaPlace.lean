/-
  The walks of lengths and places, of the program's and of the reference's.
-/
import Derived.Test.YtmnlgeglmkdecaaChk
namespace Go.Proofs.Ytmnlgeglmkdecaa
open Go.RowKit

theorem placesL_at (L : Ll) {k : Nat} (hk : k < L.js.length) : (placesL L)[k]? = some (placeL L.bs k) := by simp [placesL, hk]
theorem Lies.place {w : World} {B : Nat} {P : Addr} {L : Ll} (h : Lies w B (some P) (ic (placesL L))) {k : Nat} (hk : k < L.js.length) : w.cell? (P.add k) = some (.int .i64 (placeL L.bs k)) := by
  obtain ⟨a, ha, _, hc⟩ := h.num (placesL_at L hk)
  injection ha with ha
  subst ha
  exact hc

theorem add_zero (g k : Nat) : (⟨g, 0, none⟩ : Addr).add k = ⟨g, k, none⟩ := by unfold Addr.add; split <;> simp_all
theorem Lies.place0 {w : World} {B g : Nat} {L : Ll} (h : Lies w B (some ⟨g, 0, none⟩) (ic (placesL L))) {k : Nat} (hk : k < L.js.length) : w.cell? ⟨g, k, none⟩ = some (.int .i64 (placeL L.bs k)) := by
  rw [← add_zero]; exact h.place hk

set_option maxHeartbeats 400000 in
theorem length_any {L : Ll} (hj : L.js.length = L.bs.length + 1) (_hn : L.js.length ≤ 1000) (H : Hds) (P : Addr) (pc : Nat) (w : World) (hP : Lies w w.heap.size (some P) (ic (placesL L))) :
    Calls Try.prog 81 #[(.agg #[.string L.name, .slice H.j.A L.js.length H.j.c, .slice H.b.A L.bs.length H.b.c, .slice H.s.A L.ss.length H.s.c, .slice (some P) L.js.length pc])] w fun e w' => e = .returned (.int .i64 (placeL L.bs L.bs.length)) ∧ Below w.heap.size w w' := by
  have hb := (Below.refl w.heap.size w).alloc (Nat.le_refl _) (.cells #[.string L.name, .slice H.j.A L.js.length H.j.c, .slice H.b.A L.bs.length H.b.c, .slice H.s.A L.ss.length H.s.c, .slice (some P) L.js.length pc] 119)
  have hc := (hP.below hb).place (k := L.bs.length) (by omega)
  have HJ := Lib.hid hj
  have hlt : L.bs.length < L.js.length := by omega
  clear hj
  go_enter Try.func81, Try.ntmps81
  go_wp2_with fail
  go_ret
  exact ⟨rfl, hb⟩

set_option maxHeartbeats 400000 in
theorem hasJoint_any {L : Ll} (_hn : L.js.length ≤ 1000) (H : Hds) (P : Addr) (pc : Nat) (j : Int) (w : World) :
    Calls Try.prog 82 #[(.agg #[.string L.name, .slice H.j.A L.js.length H.j.c, .slice H.b.A L.bs.length H.b.c, .slice H.s.A L.ss.length H.s.c, .slice (some P) L.js.length pc]), .int .i64 j] w fun e w' => e = .returned (.bool (inB j 0 (L.js.length - 1))) ∧ Below w.heap.size w w' := by
  have hb := (Below.refl w.heap.size w).alloc (Nat.le_refl _) (.cells #[.string L.name, .slice H.j.A L.js.length H.j.c, .slice H.b.A L.bs.length H.b.c, .slice H.s.A L.ss.length H.s.c, .slice (some P) L.js.length pc] 119)
  by_cases h1 : 0 ≤ j <;> by_cases h2 : j < L.js.length
  all_goals
    have hr : Hid (inB j 0 ((L.js.length : Int) - 1) = _) := Lib.hid rfl
    go_enter Try.func82, Try.ntmps82
    go_wp2_with fail
    go_ret
    exact ⟨ret_bool (by rw [Bool.eq_iff_iff, inB_iff]; simp; omega), hb⟩

theorem ck_cases (L : Ll) : (∃ m1 m2 er, ckLine L = ((m1, m2), er) ∧ er ≠ 0 ∧ (ckLine L).2 = er) ∨ (Right L ∧ ckLine L = ((0, 0), 0)) := by
  by_cases h : (ckLine L).2 = 0
  · exact .inr ⟨right_of h, ck_right h⟩
  · exact .inl ⟨_, _, _, rfl, h, rfl⟩

/-- What LengthOf comes to. -/
def lenErr (L : Ll) : Int × Int := if (ckLine L).2 = 0 then (placeL L.bs L.bs.length, 0) else (0, (ckLine L).2)

set_option maxHeartbeats 1000000 in
theorem LengthOf_any {L : Ll} (H : Hds) (hL : L.ok) (w : World) (hA : LnAt w w.heap.size L H) :
    Calls Try.prog 19 #[(.agg #[.string L.name, .slice H.j.A L.js.length H.j.c, .slice H.b.A L.bs.length H.b.c, .slice H.s.A L.ss.length H.s.c])] w fun e w' => e = .returned (.tuple #[.int .i64 (lenErr L).1, .int .i64 (lenErr L).2]) ∧ Below w.heap.size w w' := by
  have b0 := (Below.refl w.heap.size w).alloc (Nat.le_refl _) (.cells #[.string L.name, .slice H.j.A L.js.length H.j.c, .slice H.b.A L.bs.length H.b.c, .slice H.s.A L.ss.length H.s.c] 26)
  have HB := Lib.hid b0
  have HA := Lib.hid ((hA.below b0).more HB.out.size)
  clear b0 hA
  rcases ck_cases L with ⟨m1, m2, er, hck, he, hc⟩ | ⟨hr, hck⟩
  · have ge : (er != 0) = true := by simp [he]
    have hv := Lib.hid (show lenErr L = (0, er) by unfold lenErr; rw [hc, if_neg he])
    have HC := Lib.hid hck
    have HE := Lib.hid he
    clear hck he hc
    go_enter Try.func19, Try.ntmps19
    go_wp2_with (go_at_call 80; refine (check_bad HC.out HE.out H hL _ HA.out).mono ?_; rintro e w1 ⟨rfl, hb1⟩)
    go_ret2
    refine ⟨by rw [hv.out]; rfl, ?_⟩
    exact (HB.out.trans (hb1.mono HB.out.size)).alloc (by have := HB.out.size; have := hb1.size; omega) _
  · have hv := Lib.hid (show lenErr L = (placeL L.bs L.bs.length, 0) by unfold lenErr; rw [hck, if_pos rfl])
    have HC := Lib.hid hck
    have HR := Lib.hid hr
    have hnj := hL.nj
    clear hck hr
    go_enter Try.func19, Try.ntmps19
    go_wp2_with (first | (go_at_call 80; refine (check_good HR.out HC.out H hL _ HA.out).mono ?_; rintro e w1 ⟨g, rfl, hb1, hP, hg⟩; have HP := Lib.hid hP; clear hP) | (go_at_call 81; refine (length_any HR.out.jb hnj H ⟨g, 0, none⟩ _ _ ((HP.out.keep (fun p hp => World.cell?_alloc_lt _ _ p hp)).more (by simp))).mono ?_; rintro e w2 ⟨rfl, hb2⟩))
    go_ret2
    refine ⟨by rw [hv.out]; rfl, ?_⟩
    exact ((HB.out.trans (hb1.mono HB.out.size)).alloc (by have := HB.out.size; have := hb1.size; omega) _).trans (hb2.mono (by have := HB.out.size; have := hb1.size; simp at *; omega))

set_option maxHeartbeats 400000 in
theorem refPlaceOf_any {L : Ll} (hr : Right L) (H : Hds) (_hL : L.ok) (k : Int) (hk0 : 0 ≤ k) (hk : k ≤ L.bs.length) (w : World) (hA : LnAt w w.heap.size L H) :
    Calls Try.prog 24 #[(.agg #[.string L.name, .slice H.j.A L.js.length H.j.c, .slice H.b.A L.bs.length H.b.c, .slice H.s.A L.ss.length H.s.c]), .int .i64 k] w fun e w' => e = .returned (.int .i64 (placeL L.bs k.toNat)) ∧ Below w.heap.size w w' := by
  obtain ⟨k, rfl⟩ := Int.eq_ofNat_of_zero_le hk0
  rw [Int.toNat_natCast]
  have hk : k ≤ L.bs.length := by omega
  obtain ⟨⟨Aj, cj⟩, ⟨Ab, cb⟩, ⟨As, cs⟩, each⟩ := H
  have h40 := hr.most
  have b0 := (Below.refl w.heap.size w).alloc (Nat.le_refl _) (.cells #[.string L.name, .slice Aj L.js.length cj, .slice Ab L.bs.length cb, .slice As L.ss.length cs] 26)
  have HB := Lib.hid b0
  have HA := Lib.hid (hA.b.below b0)
  have HR := Lib.hid hr
  obtain ⟨ab, hab⟩ : ∃ a, Ab = some a := by obtain ⟨a, h, _⟩ := hA.b.beam (List.getElem?_eq_getElem (show 0 < L.bs.length by have := hr.one; omega)); exact ⟨a, h⟩
  subst hab
  clear b0 hA hr
  go_enter Try.func24, Try.ntmps24
  go_wp2_with fail
  go_loop [5, 6] (fun s i => ∃ q : Nat, q ≤ k ∧ i = .int .i64 q ∧ s = .int .i64 (placeL L.bs q)) (fun _ i => k - (intOf i).toNat)
  case atStart => exact ⟨0, Nat.zero_le _, rfl, by simp [placeL]⟩
  case round =>
    obtain ⟨q, hq, rfl, rfl⟩ := hrel
    by_cases hlt : q < k
    · obtain ⟨a', ha', _, j0, j1⟩ := HA.out.beam (List.getElem?_eq_getElem (show q < L.bs.length by omega))
      simp only [Option.some.injEq] at ha'
      subst ha'
      obtain ⟨p1, p2⟩ := placeL_bound L.bs HR.out.b q (by omega)
      obtain ⟨p4, p5⟩ := beam_len (HR.out.b _ (List.getElem_mem (show q < L.bs.length by omega)))
      have hqb : q < L.bs.length := by omega
      have hs := Lib.hid (placeL_succ L.bs q hqb)
      go_wp2_with fail
      go_round
      case rel => exact ⟨q + 1, by omega, by go_num, by rw [hs.out]⟩
      case measure => simp [intOf]; omega
    · obtain rfl : q = k := by omega
      go_wp2_with fail
      go_ret
      exact ⟨rfl, HB.out⟩

set_option maxHeartbeats 400000 in
theorem refLengthOf_any {L : Ll} (hr : Right L) (H : Hds) (hL : L.ok) (w : World) (hA : LnAt w w.heap.size L H) :
    Calls Try.prog 22 #[(.agg #[.string L.name, .slice H.j.A L.js.length H.j.c, .slice H.b.A L.bs.length H.b.c, .slice H.s.A L.ss.length H.s.c])] w fun e w' => e = .returned (.int .i64 (placeL L.bs L.bs.length)) ∧ Below w.heap.size w w' := by
  have b0 := (Below.refl w.heap.size w).alloc (Nat.le_refl _) (.cells #[.string L.name, .slice H.j.A L.js.length H.j.c, .slice H.b.A L.bs.length H.b.c, .slice H.s.A L.ss.length H.s.c] 26)
  have HB := Lib.hid b0
  have HA := Lib.hid ((hA.below b0).more HB.out.size)
  clear b0 hA
  go_enter Try.func22, Try.ntmps22
  go_wp2_with (go_at_call 24; refine (refPlaceOf_any hr H hL _ (by omega) (by omega) _ HA.out).mono ?_; rintro e w1 ⟨rfl, hb1⟩; rw [Int.toNat_natCast])
  go_ret
  exact ⟨rfl, HB.out.trans (hb1.mono HB.out.size)⟩

set_option maxHeartbeats 400000 in
theorem JointErr_any {L : Ll} (hn : L.js.length ≤ 1000) (H : Hds) (j : Int) (w : World) :
    Calls Try.prog 23 #[(.agg #[.string L.name, .slice H.j.A L.js.length H.j.c, .slice H.b.A L.bs.length H.b.c, .slice H.s.A L.ss.length H.s.c]), .int .i64 j] w fun e w' => e = .returned (.int .i64 (if inB j 0 (L.js.length - 1) then 0 else 6)) ∧ Below w.heap.size w w' := by
  have hb := (Below.refl w.heap.size w).alloc (Nat.le_refl _) (.cells #[.string L.name, .slice H.j.A L.js.length H.j.c, .slice H.b.A L.bs.length H.b.c, .slice H.s.A L.ss.length H.s.c] 26)
  cases h1 : inB j 0 ((L.js.length : Int) - 1)
  all_goals
    go_enter Try.func23, Try.ntmps23
    go_wp2_with (go_at_call 34; refine (Within_any _ _ _ _).mono ?_; rintro e w' ⟨rfl, rfl⟩)
    go_ret
    exact ⟨rfl, hb⟩
end Go.Proofs.Ytmnlgeglmkdecaa
