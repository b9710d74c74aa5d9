/-
  The walks of the reference's places: PlaceErr, BeamAt, AcrossAt and UpAt.
-/
import Derived.Test.YtmnlgeglmkdecaaPlaces2
import Derived.Test.YtmnlgeglmkdecaaPlaceOf
namespace Go.Proofs.Ytmnlgeglmkdecaa
open Go.RowKit

/-- A box of a line, the world below, the line itself. -/
structure LawSt (w W : World) (L : Ll) (H : Hds) : Prop where
  box : Bk W w.heap.size 26 #[.string L.name, .slice H.j.A L.js.length H.j.c, .slice H.b.A L.bs.length H.b.c, .slice H.s.A L.ss.length H.s.c]
  bl : Below w.heap.size w W
  ln : LnAt W W.heap.size L H
theorem LawSt.call {w W W' : World} {L : Ll} {H : Hds} (h : LawSt w W L H) (hb : Below W.heap.size W W') : LawSt w W' L H := ⟨h.box.call hb, Below.step h.bl hb, (h.ln.below hb).more hb.size⟩
theorem LawSt.alloc {w W : World} {L : Ll} {H : Hds} (h : LawSt w W L H) (o : Obj) : LawSt w (W.alloc o) L H := h.call ((Below.refl _ W).alloc (Nat.le_refl _) o)
theorem LawSt.start {w : World} {L : Ll} {H : Hds} (hA : LnAt w w.heap.size L H) : LawSt w (w.alloc (.cells #[.string L.name, .slice H.j.A L.js.length H.j.c, .slice H.b.A L.bs.length H.b.c, .slice H.s.A L.ss.length H.s.c] 26)) L H :=
  have hb := (Below.refl w.heap.size w).alloc (Nat.le_refl _) (.cells #[.string L.name, .slice H.j.A L.js.length H.j.c, .slice H.b.A L.bs.length H.b.c, .slice H.s.A L.ss.length H.s.c] 26)
  ⟨Bk.new w _ _, hb, (hA.below hb).more hb.size⟩

set_option maxHeartbeats 1000000 in
theorem Lowest_any (n d : Int) (hn : -4611686018427387904 ≤ n) (hn' : n ≤ 4611686018427387904) (hd : 1 ≤ d) (hd' : d ≤ 4611686018427387904) (w : World) :
    Calls Try.prog 101 #[.int .i64 n, .int .i64 d] w fun e w' => e = .returned (lowV n d) ∧ Below w.heap.size w w' := by
  have b0 := Lib.hid ((Below.refl w.heap.size w).alloc (Nat.le_refl _) (.cells #[.int .i64 0, .int .i64 0] 46))
  have R0 := Lib.hid (Bk.new w 46 #[.int .i64 0, .int .i64 0])
  obtain ⟨e, rfl⟩ := Int.eq_ofNat_of_zero_le (show 0 ≤ d by omega)
  have h1 : 0 < Int.gcd n (e : Int) := Int.gcd_pos_of_ne_zero_right _ (by omega)
  unfold lowV
  generalize hg : Int.gcd n (e : Int) = a at *
  have HG := Lib.hid hg
  clear hg
  have q1 := tdiv_small (n := n) (g := a) (M := 4611686018427387904) (by omega)
  have q2 : (e : Int) / (a : Int) ≤ 4611686018427387904 := Int.le_trans (Int.ediv_le_self _ (by omega)) hd'
  have q3 : 0 ≤ (e : Int) / (a : Int) := Int.ediv_nonneg (by omega) (by omega)
  have t1 := IntWalk.i64_in (n.tdiv a) (by omega)
  have t2 : wrap64 ((e : Int) / (a : Int)) = (e : Int) / (a : Int) := IntWalk.wrap64_in _ ⟨by omega, by omega⟩
  have z1 : ((a : Int) == 0) = false := by simp; omega
  clear q1 q2 q3
  go_enter Try.func101, Try.ntmps101
  go_wp2_with (go_at_call 92; refine (Gcd_any n e hn hn' (by omega) (by omega) _).mono ?_; rintro e w1 ⟨rfl, hb1⟩; rw [HG.out]; have R1 := Lib.hid (R0.out.call hb1); obtain ⟨d0, d1, f0, f1⟩ := R1.out.two; have B1 := Lib.hid (Below.step b0.out hb1))
  go_region
  all_goals
    go_wp2_with fail
    refine bodyPost_ret (v := .agg #[.int .i64 (n.tdiv a), .int .i64 ((e : Int) / (a : Int))]) (by simp [results, Try.results101, go_sem, d0, d1, t2]) rfl ⟨rfl, ?_⟩
    first | exact ((B1.out.setCell (by simp) _).setCell (by simp) _).drew | exact ((B1.out.drew).setCell (by simp) _).setCell (by simp) _ | exact (B1.out.setCell (by simp) _).setCell (by simp) _

set_option maxHeartbeats 1000000 in
theorem between_any (a b at_ l : Int) (ha : -20000 ≤ a ∧ a ≤ 20000) (hb : -20000 ≤ b ∧ b ≤ 20000) (ht : 0 ≤ at_ ∧ at_ ≤ l) (hl : 1000 ≤ l ∧ l ≤ 30000) (w : World) :
    Calls Try.prog 91 #[.int .i64 a, .int .i64 b, .int .i64 at_, .int .i64 l] w fun e w' => e = .returned (lowV (a * (l - at_) + b * at_) l) ∧ Below w.heap.size w w' := by
  have b0 := Lib.hid ((Below.refl w.heap.size w).alloc (Nat.le_refl _) (.cells #[.int .i64 0, .int .i64 0] 46))
  have R0 := Lib.hid (Bk.new w 46 #[.int .i64 0, .int .i64 0])
  have m1 := mul_two (a := a) (b := l - at_) (A := 20000) (B := 30000) (by omega) (by omega)
  have m2 := mul_two (a := b) (b := at_) (A := 20000) (B := 30000) (by omega) (by omega)
  have t1 := IntWalk.wrap64_in (a * (l - at_)) ⟨by omega, by omega⟩
  have t2 := IntWalk.wrap64_in (b * at_) ⟨by omega, by omega⟩
  have t3 := IntWalk.wrap64_in (a * (l - at_) + b * at_) ⟨by omega, by omega⟩
  have m3 : -4611686018427387904 ≤ a * (l - at_) + b * at_ := by omega
  have m4 : a * (l - at_) + b * at_ ≤ 4611686018427387904 := by omega
  obtain ⟨n, hn⟩ : ∃ n, a * (l - at_) + b * at_ = n := ⟨_, rfl⟩
  have HN := Lib.hid hn
  clear m1 m2 hn
  go_enter Try.func91, Try.ntmps91
  go_wp2_with (go_at_call 101; refine (Lowest_any _ _ m3 m4 (by omega) (by omega) _).mono ?_; rintro e w1 ⟨rfl, hb1⟩; rw [HN.out]; unfold lowV; have R1 := Lib.hid (R0.out.call hb1); obtain ⟨d0, d1, f0, f1⟩ := R1.out.two; have B1 := Lib.hid (Below.step b0.out hb1))
  refine bodyPost_ret (v := lowV n l) (by unfold lowV; simp [results, Try.results91, go_sem, d0, d1]) rfl ⟨by rw [HN.out], ?_⟩
  exact (B1.out.setCell (by simp) _).setCell (by simp) _

set_option maxHeartbeats 1000000 in
theorem PlaceErr_any {L : Ll} (hr : Right L) (H : Hds) (hL : L.ok) (p : Int) (w : World) (hA : LnAt w w.heap.size L H) :
    Calls Try.prog 29 #[(.agg #[.string L.name, .slice H.j.A L.js.length H.j.c, .slice H.b.A L.bs.length H.b.c, .slice H.s.A L.ss.length H.s.c]), .int .i64 p] w fun e w' => e = .returned (.int .i64 (if inB p 0 (placeL L.bs L.bs.length) then 0 else 2)) ∧ Below w.heap.size w w' := by
  have S0 := Lib.hid (LawSt.start hA)
  have HR := Lib.hid hr
  clear hA hr
  obtain ⟨T, hT⟩ : ∃ T, placeL L.bs L.bs.length = T := ⟨_, rfl⟩
  rw [hT]
  have HT := Lib.hid hT
  clear hT
  cases h1 : inB p 0 T
  all_goals
    go_enter Try.func29, Try.ntmps29
    go_wp2_with (first | (go_at_call 22; refine (refLengthOf_any HR.out H hL _ S0.out.ln).mono ?_; rintro e w1 ⟨rfl, hb1⟩; rw [HT.out]; have S1 := Lib.hid (S0.out.call hb1)) | (go_at_call 34; refine (Within_any _ _ _ _).mono ?_; rintro e w' ⟨rfl, rfl⟩))
    go_ret
    exact ⟨rfl, S1.out.bl⟩

set_option maxHeartbeats 2000000 in
theorem refBeamAt_any {L : Ll} (hr : Right L) (H : Hds) (hL : L.ok) (p : Int) (p0 : 0 ≤ p) (p1 : p ≤ 2000000) (w : World) (hA : LnAt w w.heap.size L H) :
    Calls Try.prog 30 #[(.agg #[.string L.name, .slice H.j.A L.js.length H.j.c, .slice H.b.A L.bs.length H.b.c, .slice H.s.A L.ss.length H.s.c]), .int .i64 p] w fun e w' => e = .returned (.tuple #[.int .i64 (beamOf L p), .int .i64 (p - placeL L.bs (beamOf L p))]) ∧ Below w.heap.size w w' := by
  have S0 := Lib.hid (LawSt.start hA)
  have HR := Lib.hid hr
  have h40 := hr.most
  have hnb := hL.nb
  have hnj := hL.nj
  have hns := hL.ns
  have h1 := hr.one
  clear hA hr
  go_enter Try.func30, Try.ntmps30
  go_wp2_with fail
  go_loopw [6, 7] (fun b i wr => ∃ k : Nat, k ≤ L.bs.length ∧ i = .int .i64 k ∧ b = .int .i64 (beamFrom L p (k - 1)) ∧ LawSt w wr L H) (fun _ i _ => L.bs.length - (intOf i).toNat)
  case atStart => exact ⟨0, Nat.zero_le _, rfl, rfl, S0.out⟩
  case round =>
    obtain ⟨k, hk, rfl, rfl, hS⟩ := hrel
    have S1 := Lib.hid hS
    obtain ⟨c0, c1, c2, c3⟩ := hS.box.four
    clear hS
    have hbf := beamFrom_le L p (k - 1)
    by_cases hlt : k < L.bs.length
    · obtain ⟨s1, s2⟩ := placeL_bound L.bs HR.out.b k (by omega)
      have hkl : (k : Int) < (L.bs.length : Int) := by omega
      by_cases hle : placeL L.bs k ≤ p
      · have HN := Lib.hid (show beamFrom L p (k + 1 - 1) = k by
          rw [Nat.add_sub_cancel]
          cases k with
          | zero => rfl
          | succ k => rw [beamFrom, if_pos hle])
        go_wp2_with (go_at_call 24; refine (refPlaceOf_any HR.out H hL k (by omega) (by omega) _ S1.out.ln).mono ?_; rintro e w1 ⟨rfl, hb1⟩; rw [Int.toNat_natCast]; have S2 := Lib.hid (S1.out.call hb1))
        go_roundw
        case rel => exact ⟨k + 1, by omega, by go_num, by rw [HN.out], S2.out⟩
        case measure => simp [intOf]; omega
      · have HN := Lib.hid (show beamFrom L p (k + 1 - 1) = beamFrom L p (k - 1) by
          rw [Nat.add_sub_cancel]
          cases k with
          | zero => rfl
          | succ k => rw [beamFrom, if_neg hle, Nat.add_sub_cancel])
        go_wp2_with (go_at_call 24; refine (refPlaceOf_any HR.out H hL k (by omega) (by omega) _ S1.out.ln).mono ?_; rintro e w1 ⟨rfl, hb1⟩; rw [Int.toNat_natCast]; have S2 := Lib.hid (S1.out.call hb1))
        go_roundw
        case rel => exact ⟨k + 1, by omega, by go_num, by rw [HN.out], S2.out⟩
        case measure => simp [intOf]; omega
    · obtain rfl : k = L.bs.length := by omega
      have hbb : beamFrom L p (L.bs.length - 1) ≤ L.bs.length := by omega
      obtain ⟨s1, s2⟩ := placeL_bound L.bs HR.out.b _ hbb
      have hb0 : (0 : Int) ≤ (beamFrom L p (L.bs.length - 1) : Int) := by omega
      have hb1 : (beamFrom L p (L.bs.length - 1) : Int) ≤ (L.bs.length : Int) := by omega
      go_wp2_with (go_at_call 24; refine (refPlaceOf_any HR.out H hL _ hb0 hb1 _ S1.out.ln).mono ?_; rintro e w1 ⟨rfl, hb1⟩; rw [Int.toNat_natCast]; have S2 := Lib.hid (S1.out.call hb1))
      go_ret2
      exact ⟨rfl, S2.out.bl⟩
end Go.Proofs.Ytmnlgeglmkdecaa
