/-
  Small walks for poses: isClear, Inside, poses; ClearAt and FirstUnclear where there is an error.
-/
import Derived.Test.YtmnlgeglmkdecaaBenR
namespace Go.Proofs.Ytmnlgeglmkdecaa
open Go.RowKit

/-- Does a range lie within a vehicle's clearance? -/
def insB (c lo hi : Int) : Bool := decide (-c ≤ lo) && decide (hi ≤ c)

set_option maxHeartbeats 400000 in
theorem isClear_any (v : Lv) (hc : 0 ≤ v.clear ∧ v.clear ≤ 1000) (lo hi : Int) (w : World) :
    Calls Try.prog 116 #[(.agg #[.int .i64 v.len, .int .i64 v.clear, .int .i64 v.step]), .agg #[.int .i64 lo, .int .i64 hi]] w fun e w' => e = .returned (.bool (insB v.clear lo hi)) ∧ Below w.heap.size w w' := by
  have hb := Lib.hid (((Below.refl w.heap.size w).alloc (Nat.le_refl _) (.cells #[.int .i64 v.len, .int .i64 v.clear, .int .i64 v.step] 77)).alloc (by simp) (.cells #[.int .i64 lo, .int .i64 hi] 54))
  obtain ⟨c0, c1⟩ := hc
  by_cases h1 : -v.clear ≤ lo <;> by_cases h2 : hi ≤ v.clear
  all_goals
    have hr := Lib.hid (show insB v.clear lo hi = _ from rfl)
    go_enter Try.func116, Try.ntmps116
    go_wp2_with fail
    go_ret
    exact ⟨ret_bool (by simp [insB, h1, h2]), hb.out⟩
set_option maxHeartbeats 400000 in
theorem Inside_any (v : Lv) (hc : 0 ≤ v.clear ∧ v.clear ≤ 1000) (lo hi : Int) (w : World) :
    Calls Try.prog 119 #[(.agg #[.int .i64 v.len, .int .i64 v.clear, .int .i64 v.step]), .agg #[.int .i64 lo, .int .i64 hi]] w fun e w' => e = .returned (.bool (insB v.clear lo hi)) ∧ Below w.heap.size w w' := by
  have hb := Lib.hid (((Below.refl w.heap.size w).alloc (Nat.le_refl _) (.cells #[.int .i64 v.len, .int .i64 v.clear, .int .i64 v.step] 77)).alloc (by simp) (.cells #[.int .i64 lo, .int .i64 hi] 54))
  obtain ⟨c0, c1⟩ := hc
  by_cases h1 : -v.clear ≤ lo <;> by_cases h2 : hi ≤ v.clear
  all_goals
    go_enter Try.func119, Try.ntmps119
    go_wp2_with fail
    go_ret
    exact ⟨ret_bool (by simp [insB, h1, h2]), hb.out⟩

set_option maxHeartbeats 2000000 in
set_option maxRecDepth 100000 in
theorem ClearAt_err {L : Ll} {v : Lv} {p er : Int} (h : poseErr L v p = er) (he : er ≠ 0) (H : Hds) (hL : L.ok) (w : World) (hA : LnAt w w.heap.size L H) :
    Calls Try.prog 61 #[(.agg #[.string L.name, .slice H.j.A L.js.length H.j.c, .slice H.b.A L.bs.length H.b.c, .slice H.s.A L.ss.length H.s.c]), (.agg #[.int .i64 v.len, .int .i64 v.clear, .int .i64 v.step]), .int .i64 p] w fun e w' => e = .returned (.tuple #[.int .i64 0, .int .i64 er]) ∧ Below w.heap.size w w' := by
  have b0 := (((((Below.refl w.heap.size w).alloc (Nat.le_refl _) (.cells #[.string L.name, .slice H.j.A L.js.length H.j.c, .slice H.b.A L.bs.length H.b.c, .slice H.s.A L.ss.length H.s.c] 26)).alloc (by simp) (.cells #[.int .i64 v.len, .int .i64 v.clear, .int .i64 v.step] 77)).alloc (by simp; omega) (.cells #[.int .i64 p] 3)).alloc (by simp; omega) (.cells #[.int .i64 0] 3)).alloc (by simp; omega) (.cells #[.int .i64 0] 31)
  have HB := Lib.hid b0
  have R0 := Lib.hid ((Bk.new3 w (.cells #[.string L.name, .slice H.j.A L.js.length H.j.c, .slice H.b.A L.bs.length H.b.c, .slice H.s.A L.ss.length H.s.c] 26) (.cells #[.int .i64 v.len, .int .i64 v.clear, .int .i64 v.step] 77) (.cells #[.int .i64 p] 3) 3 #[.int .i64 0]).alloc (.cells #[.int .i64 0] 31))
  have E0 := Lib.hid (Bk.new4 w (.cells #[.string L.name, .slice H.j.A L.js.length H.j.c, .slice H.b.A L.bs.length H.b.c, .slice H.s.A L.ss.length H.s.c] 26) (.cells #[.int .i64 v.len, .int .i64 v.clear, .int .i64 v.step] 77) (.cells #[.int .i64 p] 3) (.cells #[.int .i64 0] 3) 31 #[.int .i64 0])
  have HA := Lib.hid ((hA.below b0).more b0.size)
  have ge : (er != 0) = true := by simp [he]
  have HE := Lib.hid he
  have HP := Lib.hid h
  clear h he hA b0
  go_enter Try.func61, Try.ntmps61
  go_wp2_with fail
  refine (checkPose_err HP.out HE.out H hL _ HA.out).mono ?_
  rintro e w1 ⟨rfl, hb1⟩
  have R1 := Lib.hid ((R0.out.call hb1).alloc (.cells #[.string ⟨#[]⟩, .slice none 0 0, .slice none 0 0, .slice none 0 0, .slice none 0 0] 119))
  have E1 := Lib.hid ((E0.out.call hb1).alloc (.cells #[.string ⟨#[]⟩, .slice none 0 0, .slice none 0 0, .slice none 0 0, .slice none 0 0] 119))
  have B1 := Lib.hid (Below.step HB.out hb1)
  obtain ⟨d0, d1⟩ := R1.out.one
  obtain ⟨e0, e1⟩ := E1.out.one
  clear hb1
  go_wp2_with fail
  refine bodyPost_ret (v := .tuple #[.int .i64 0, .int .i64 er]) (by simp [results, Try.results61, go_sem, d0, e0]) rfl ⟨rfl, ?_⟩
  exact (B1.out.alloc B1.out.size _).setCell (by simp; omega) _ |>.setCell (by simp; omega) _

set_option maxHeartbeats 2000000 in
set_option maxRecDepth 100000 in
theorem FirstUnclear_err {L : Ll} {v : Lv} {er : Int} (h : rideErr L v = er) (he : er ≠ 0) (H : Hds) (hL : L.ok) (w : World) (hA : LnAt w w.heap.size L H) :
    Calls Try.prog 62 #[(.agg #[.string L.name, .slice H.j.A L.js.length H.j.c, .slice H.b.A L.bs.length H.b.c, .slice H.s.A L.ss.length H.s.c]), (.agg #[.int .i64 v.len, .int .i64 v.clear, .int .i64 v.step])] w fun e w' => e = .returned (.tuple #[.agg #[.int .i64 0, .int .i64 0, .int .i64 0, .int .i64 0], .int .i64 er]) ∧ Below w.heap.size w w' := by
  have b0 := ((((Below.refl w.heap.size w).alloc (Nat.le_refl _) (.cells #[.string L.name, .slice H.j.A L.js.length H.j.c, .slice H.b.A L.bs.length H.b.c, .slice H.s.A L.ss.length H.s.c] 26)).alloc (by simp) (.cells #[.int .i64 v.len, .int .i64 v.clear, .int .i64 v.step] 77)).alloc (by simp; omega) (.cells #[.int .i64 0, .int .i64 0, .int .i64 0, .int .i64 0] 91)).alloc (by simp; omega) (.cells #[.int .i64 0] 31)
  have HB := Lib.hid b0
  have R0 := Lib.hid ((Bk.new2 w (.cells #[.string L.name, .slice H.j.A L.js.length H.j.c, .slice H.b.A L.bs.length H.b.c, .slice H.s.A L.ss.length H.s.c] 26) (.cells #[.int .i64 v.len, .int .i64 v.clear, .int .i64 v.step] 77) 91 #[.int .i64 0, .int .i64 0, .int .i64 0, .int .i64 0]).alloc (.cells #[.int .i64 0] 31))
  have E0 := Lib.hid (Bk.new3 w (.cells #[.string L.name, .slice H.j.A L.js.length H.j.c, .slice H.b.A L.bs.length H.b.c, .slice H.s.A L.ss.length H.s.c] 26) (.cells #[.int .i64 v.len, .int .i64 v.clear, .int .i64 v.step] 77) (.cells #[.int .i64 0, .int .i64 0, .int .i64 0, .int .i64 0] 91) 31 #[.int .i64 0])
  have HA := Lib.hid ((hA.below b0).more b0.size)
  have ge : (er != 0) = true := by simp [he]
  have HE := Lib.hid he
  have HP := Lib.hid h
  clear h he hA b0
  go_enter Try.func62, Try.ntmps62
  go_wp2_with fail
  refine (checkRide_err HP.out HE.out H hL _ HA.out).mono ?_
  rintro e w1 ⟨rfl, hb1⟩
  have R1 := Lib.hid ((R0.out.call hb1).alloc (.cells #[.string ⟨#[]⟩, .slice none 0 0, .slice none 0 0, .slice none 0 0, .slice none 0 0] 119))
  have E1 := Lib.hid ((E0.out.call hb1).alloc (.cells #[.string ⟨#[]⟩, .slice none 0 0, .slice none 0 0, .slice none 0 0, .slice none 0 0] 119))
  have B1 := Lib.hid (Below.step HB.out hb1)
  obtain ⟨d0, d1, d2, d3⟩ := R1.out.four
  obtain ⟨f0, f1, f2, f3⟩ : _ ∧ _ ∧ _ ∧ _ := ⟨R1.out.frozen 0, R1.out.frozen 1, R1.out.frozen 2, R1.out.frozen 3⟩
  obtain ⟨e0, e1⟩ := E1.out.one
  clear hb1
  go_wp2_with fail
  refine bodyPost_ret (v := .tuple #[.agg #[.int .i64 0, .int .i64 0, .int .i64 0, .int .i64 0], .int .i64 er]) (by simp [results, Try.results62, go_sem, d0, d1, d2, d3, e0]) rfl ⟨rfl, ?_⟩
  exact (B1.out.alloc B1.out.size _).setCell (by simp; omega) _ |>.setCell (by simp; omega) _ |>.setCell (by simp; omega) _ |>.setCell (by simp; omega) _ |>.setCell (by simp; omega) _
end Go.Proofs.Ytmnlgeglmkdecaa
