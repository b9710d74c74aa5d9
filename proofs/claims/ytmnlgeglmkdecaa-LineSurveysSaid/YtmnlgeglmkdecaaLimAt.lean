/-
  The walk of LimitAt at the line of the examples.
-/
import Derived.Test.YtmnlgeglmkdecaaLimit
import Derived.Test.YtmnlgeglmkdecaaOpen
namespace Go.Proofs.Ytmnlgeglmkdecaa
open Go.RowKit

theorem turn_short (H : Hds) (P : Addr) (pc : Nat) (w : World) (hA : LnAt w w.heap.size shortL H) {L : Ll} (hL : shortL = L) :
    Calls Try.prog 98 #[(.agg #[.string L.name, .slice H.j.A L.js.length H.j.c, .slice H.b.A L.bs.length H.b.c, .slice H.s.A L.ss.length H.s.c, .slice (some P) L.js.length pc]), .int .i64 1] w fun e w' => e = .returned (.tuple #[.int .i64 2000000, .int .i64 100000000]) ∧ Below w.heap.size w w' := by
  subst hL
  have h := turn_any short_right H P pc 0 (by decide) w hA
  have e1 : turnL shortL (0 + 1) = 2000000 := by decide +kernel
  have e2 : lenL shortL 0 * lenL shortL (0 + 1) = 100000000 := by decide +kernel
  rw [e1, e2] at h
  exact h

set_option maxHeartbeats 2000000 in
set_option maxRecDepth 100000 in
theorem limit_short (H : Hds) (P : Addr) (pc : Nat) (w : World) (hA : LnAt w w.heap.size shortL H) {L : Ll} (hL : shortL = L) :
    Calls Try.prog 104 #[(.agg #[.string L.name, .slice H.j.A L.js.length H.j.c, .slice H.b.A L.bs.length H.b.c, .slice H.s.A L.ss.length H.s.c, .slice (some P) L.js.length pc]), .int .i64 1000, .int .i64 1] w fun e w' => e = .returned (.int .i64 745250000) ∧ Below w.heap.size w w' := by
  obtain ⟨⟨Aj, cj⟩, ⟨Ab, cb⟩, ⟨As, cs⟩, each⟩ := H
  obtain ⟨ab, hab⟩ : ∃ a, Ab = some a := by obtain ⟨a, h, _⟩ := hA.b.beam (i := 0) (b := ⟨10000, 0⟩) rfl; exact ⟨a, h⟩
  subst hab
  have b0 := (Below.refl w.heap.size w).alloc (Nat.le_refl _) (.cells #[.string L.name, .slice Aj L.js.length cj, .slice (some ab) L.bs.length cb, .slice As L.ss.length cs, .slice (some P) L.js.length pc] 119)
  have X0 := Lib.hid (Bk.new w 119 #[.string L.name, .slice Aj L.js.length cj, .slice (some ab) L.bs.length cb, .slice As L.ss.length cs, .slice (some P) L.js.length pc])
  have HB := Lib.hid b0
  have HA := Lib.hid ((hA.below b0).more b0.size)
  have HA0 := Lib.hid hA
  have HL := Lib.hid hL
  have hn2 : 1 < L.bs.length := by rw [← hL]; decide
  have hn3 : L.bs.length ≤ 2 := by rw [← hL]; decide
  clear b0 hA hL
  go_enter Try.func104, Try.ntmps104
  go_wp2_with (go_at_call 98; refine (turn_short ⟨⟨Aj, cj⟩, ⟨some ab, cb⟩, ⟨As, cs⟩, each⟩ P pc _ HA.out HL.out).mono ?_; rintro e w1 ⟨rfl, hb1⟩)
  have X1 := Lib.hid (X0.out.call hb1)
  have bw := Lib.hid (Below.step HB.out hb1)
  obtain ⟨c0, c1, c2, c3, c4⟩ := X1.out.five
  obtain ⟨a1, e1, _, y1, y2⟩ := (HA0.out.b.below bw.out).beam (i := 0) (b := ⟨10000, 0⟩) rfl
  obtain ⟨a2, e2, _, y3, y4⟩ := (HA0.out.b.below bw.out).beam (i := 1) (b := ⟨10000, 100⟩) rfl
  simp only [Option.some.injEq] at e1 e2
  subst e1
  subst e2
  simp [Addr.add] at y1 y2 y3 y4
  have hn0 : 0 < L.bs.length := by omega
  have keep : ∀ (p : Addr) (v : Value), w1.cell? p = some v → ∀ X : Array Value, (w1.alloc (.cells X 59)).cell? p = some v := fun p v h X =>
    (World.cell?_alloc_lt _ _ p (cell_lt h)).trans h
  have keep2 : ∀ (p : Addr) (v : Value), w1.cell? p = some v → ∀ X Y : Array Value, ((w1.alloc (.cells X 59)).alloc (.cells Y 59)).cell? p = some v := fun p v h X Y =>
    (World.cell?_alloc_lt _ _ p (cell_lt (keep p v h X))).trans (keep p v h X)
  have k1 := keep _ _ c2
  have k2 := keep2 _ _ c2
  have k3 := keep _ _ y1
  have k4 := keep2 _ _ y1
  have k5 := keep _ _ y2
  have k6 := keep2 _ _ y2
  have k7 := keep _ _ y3
  have k8 := keep2 _ _ y3
  have k9 := keep _ _ y4
  have k10 := keep2 _ _ y4
  have hn4 : (1 : Int) < (L.bs.length : Int) := by omega
  have hn5 : (0 : Int) < (L.bs.length : Int) := by omega
  clear keep keep2
  have wz : IntKind.i64.wrap 0 = 0 := by decide
  go_region
  all_goals
    clear k1 k2 k3 k4 k5 k6 k7 k8 k9 k10 wz
    go_wp2_with fail
    go_region
    go_wp2_with (first | (go_at_call 129; refine (mul_short _).mono ?_; rintro e w' ⟨rfl, rfl⟩) | (go_at_call 130; refine (div_short _).mono ?_; rintro e w9 ⟨rfl, n, rfl⟩))
    go_ret
    refine ⟨rfl, ?_⟩
    have hs1 := bw.out.size
    exact below_drewN ((bw.out.alloc hs1 _).alloc (by simp; omega) _) _

set_option maxHeartbeats 1000000 in
theorem LimitAt_short (H : Hds) (w : World) (hA : LnAt w w.heap.size shortL H) {L : Ll} (hL : shortL = L) :
    Calls Try.prog 46 #[(.agg #[.string L.name, .slice H.j.A L.js.length H.j.c, .slice H.b.A L.bs.length H.b.c, .slice H.s.A L.ss.length H.s.c]), .int .i64 1000, .int .i64 1] w fun e w' => e = .returned (.tuple #[.int .i64 745250000, .int .i64 0]) ∧ Below w.heap.size w w' := by
  have b0 := (Below.refl w.heap.size w).alloc (Nat.le_refl _) (.cells #[.string L.name, .slice H.j.A L.js.length H.j.c, .slice H.b.A L.bs.length H.b.c, .slice H.s.A L.ss.length H.s.c] 26)
  have HB := Lib.hid b0
  have HA0 := Lib.hid hA
  have HA := Lib.hid ((hA.below b0).more b0.size)
  have HA1 : Hid (LnAt (w.alloc (.cells #[.string L.name, .slice H.j.A L.js.length H.j.c, .slice H.b.A L.bs.length H.b.c, .slice H.s.A L.ss.length H.s.c] 26)) (w.alloc (.cells #[.string L.name, .slice H.j.A L.js.length H.j.c, .slice H.b.A L.bs.length H.b.c, .slice H.s.A L.ss.length H.s.c] 26)).heap.size L H) := Lib.hid (by have h := HA.out; clear HA; subst hL; exact h)
  have HL := Lib.hid hL
  have HR : Hid (Right L) := Lib.hid (hL ▸ short_right)
  have HC : Hid (ckLine L = ((0, 0), 0)) := Lib.hid (hL ▸ short_ck)
  have HO : Hid L.ok := Lib.hid (hL ▸ short_ok)
  have hn := HO.out.nj
  have hin : inB 1 1 ((L.js.length : Int) - 2) = true := by rw [← hL]; decide
  clear b0 hA hL
  go_enter Try.func46, Try.ntmps46
  go_wp2_with (first | (go_at_call 103; refine (checkSide_good HR.out HC.out H HO.out 1000 (by decide) _ HA1.out).mono ?_; rintro e w1 ⟨g, rfl, hb1, hP, hg⟩; have HP := Lib.hid hP; clear hP hg; have b1 := Lib.hid (Below.step HB.out hb1)) | (go_at_call 97; refine (isInner_any hn H ⟨g, 0, none⟩ _ _ _).mono ?_; rintro e w2 ⟨rfl, hb2⟩; have X2 := Lib.hid ((Bk.new w1 119 #[.string L.name, .slice H.j.A L.js.length H.j.c, .slice H.b.A L.bs.length H.b.c, .slice H.s.A L.ss.length H.s.c, .slice (some ⟨g, 0, none⟩) L.js.length L.js.length]).call hb2); obtain ⟨c0, c1, c2, c3, c4⟩ := X2.out.five; have b2 := Lib.hid (Below.step (b1.out.alloc b1.out.size _) hb2); have la := Lib.hid ((HA0.out.below b2.out).more b2.out.size)) | (go_at_call 104; refine (limit_short H ⟨g, 0, none⟩ _ _ la.out HL.out).mono ?_; rintro e w3 ⟨rfl, hb3⟩; have b3 := Lib.hid (Below.step b2.out hb3)))
  go_ret2
  exact ⟨rfl, b3.out⟩
end Go.Proofs.Ytmnlgeglmkdecaa
